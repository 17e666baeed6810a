import Derived.Test.YtgjblmlibhppiaaGreatDoorMy14
namespace Go.Proofs.YtgjblmlibhppiaaGreatDoor
set_option maxRecDepth 100000
set_option maxHeartbeats 64000000
open Go.RowKit
def besT (k : Int) (l : List Ty) : List Ty := tyK k :: l.filter fun t => !(t.k == k) && infT t
theorem besT_take {k : Int} {l : List Ty} {i : Nat} (h : i < l.length) : besT k (l.take (i + 1)) = besT k (l.take i) ++ (if !(l[i].k == k) && infT l[i] then [l[i]] else []) := by
 unfold besT
 rw [List.take_succ_eq_append_getElem h, List.filter_append, List.cons_append]
 congr 2
 simp only [List.filter_cons, List.filter_nil]
theorem besT_len (k : Int) (l : List Ty) : (besT k l).length ≤ l.length + 1 := by
 unfold besT
 have := List.length_filter_le (fun t => !(t.k == k) && infT t) l
 simp only [List.length_cons]; omega
structure SrcT (K : Nat → Prop) (w0 w : World) (A : Option Addr) (l : List Ty) : Prop where
 ex : ∃ b, (0 < l.length → A = some ⟨b, 0, none⟩) ∧ l.length ≤ 1099511627776 ∧ ∀ i (h : i < l.length), ∃ cs, RepT K w0 l[i] cs ∧ ∀ j u, cs[j]? = some u → w.cell? ⟨b, i * 6 + j, none⟩ = some u
theorem OutT.src {K : Nat → Prop} {w0 w : World} {v : Value} {l : List Ty} (h : OutT K w0 w v l) (hl : l.length ≤ 1099511627776) : ∃ A c, v = .slice A l.length c ∧ SrcT K w0 w A l := by
 rcases InT.of_out h with ⟨rfl, rfl⟩ | ⟨g, c, rfl, -, hi⟩
 ·exact ⟨none, 0, rfl, ⟨0, fun h => absurd h (by simp), by simp, fun i h => absurd h (by simp)⟩⟩
 ·exact ⟨_, _, rfl, ⟨g, fun _ => rfl, hl, fun i h => hi.reps i _ (List.getElem?_eq_getElem h)⟩⟩
theorem OutT.back {K : Nat → Prop} {w0 w w' : World} {v : Value} {l : List Ty} (hK : ∀ b, K b → b < w0.heap.size) (hb : Below w0.heap.size w0 w) (h : OutT K w w' v l) : OutT K w0 w' v l := by
 obtain ⟨vs, h1, h2⟩ := h
 refine ⟨vs, ⟨h1.1, ?_⟩, fun i hi => ?_⟩
 ·rcases h1.2 with h3 | ⟨g, cap, cur, hv, hg, r⟩
  ·exact .inl h3
  ·exact .inr ⟨g, cap, cur, hv, Nat.le_trans hb.size hg, r⟩
 ·obtain ⟨cs, h3, h4⟩ := h2 i hi
  exact ⟨cs, RepT.keep (fun _ h => h) (fun b o v hb2 hc => (hb.cell (hK b hb2)).symm.trans hc) _ cs h3, h4⟩
theorem rep_kind (K : Nat → Prop) (w : World) (k : Int) : RepT K w (tyK k) [.int .i64 k, .string ⟨#[]⟩, .int .i64 0, .slice none 0 0, .slice none 0 0, .slice none 0 0] :=
 RepT.of (ps := []) (fs := []) (vs := []) (by show (0 : Nat) ≤ _; omega) ⟨0, 0, ⟨Nat.le_refl _, Nat.zero_le _, fun _ => rfl, fun h => absurd h (Nat.lt_irrefl 0)⟩, fun i h => absurd h (Nat.not_lt_zero i)⟩ ⟨0, 0, ⟨Nat.le_refl _, Nat.zero_le _, fun _ => rfl, fun h => absurd h (Nat.lt_irrefl 0)⟩, fun i h => absurd h (Nat.not_lt_zero i)⟩ ⟨0, 0, ⟨Nat.le_refl _, Nat.zero_le _, fun _ => rfl, fun h => absurd h (Nat.lt_irrefl 0)⟩, fun i h => absurd h (Nat.not_lt_zero i)⟩
theorem OutT.one {K : Nat → Prop} {w0 w : World} (k : Int) (hb : w0.heap.size ≤ w.heap.size) : OutT K w0 (w.alloc (.cells #[.int .i64 k, .string ⟨#[]⟩, .int .i64 0, .slice none 0 0, .slice none 0 0, .slice none 0 0] 26)) (.slice (some ⟨w.heap.size, 0, none⟩) 1 1) [tyK k] := by
 refine InT.out (ts := [tyK k]) ⟨Nat.le_refl _, by decide, ⟨_, heap_alloc_new w _, rfl⟩, fun i t hi => ?_⟩ hb
 rcases i with _ | i
 ·injection hi with hi
  subst hi
  refine ⟨_, rep_kind K w0 k, fun j u hj => ?_⟩
  rw [cell_of_row _ _ _ _ _ _ (heap_alloc_new w _)]
  simpa using hj
 ·exact absurd hi (by simp)
theorem OutT.later {K : Nat → Prop} {w0 w w' : World} {v : Value} {l : List Ty} (h : OutT K w0 w v l) (hb : Below w.heap.size w w') : OutT K w0 w' v l :=
 h.keep fun b hv => hb.block b (by obtain ⟨vs, h1, -⟩ := h; exact (h1.lt b hv).2)
theorem OutS.nil (B : Nat) (w : World) : OutS B w (.slice none 0 0) [] := World.ownsRow_nil _ _ _ _
theorem beside_ref {K : Nat → Prop} {w0 w : World} {l : List Ty} {A : Option Addr} {c : Nat} (k : Int) (hK : ∀ b, K b → b < w0.heap.size) (hb : Below w0.heap.size w0 w) (hS : SrcT K w0 w A l) (hn : ∀ t ∈ l, (namesI t).length ≤ 1099511627776) (hl : l.length + 1 ≤ 1099511627776) :
  Calls Tryz.prog 31 #[.slice A l.length c, .int .i64 k] w fun e w' => ∃ v', e = .returned v' ∧ OutT K w0 w' v' (besT k l) ∧ Below w.heap.size w w' := by
 obtain ⟨b, hA, _, hat⟩ := hS
 have HAT := Hd hat
 have HAA := Hd hA
 have HN := Hd hn
 have HB := Hd hb
 have HL := Hd hl
 have HK := Hd hK
 clear hat hA hn hb hK
 go_enter Tryz.func31, Tryz.ntmps31
 go_wp2_with fail
 have HST0 := Hd (OutT.one (K := K) (w := w) (w0 := w) k (Nat.le_refl _))
 have HBW : Hid (Below w.heap.size w (w.alloc (.cells #[.int .i64 k, .string ⟨#[]⟩, .int .i64 0, .slice none 0 0, .slice none 0 0, .slice none 0 0] 26))) := Hd ((Below.refl _ _).alloc (Nat.le_refl _) _)
 obtain ⟨i0, hi0, hz0, hz1, hz2⟩ := partsT infoTy
 generalize w.alloc (.cells #[.int .i64 k, .string ⟨#[]⟩, .int .i64 0, .slice none 0 0, .slice none 0 0, .slice none 0 0] 26) = w1 at *
 go_loopw [5, 6] (fun ov iv wr => ∃ (i : Nat) (acc : List Ty), i ≤ l.length ∧ iv = .int .i64 i ∧ acc = besT k (l.take i) ∧ OutT K w wr ov acc ∧ Below w.heap.size w wr) (fun _ v _ => l.length - (intOf v).toNat)
 case atStart => exact ⟨0, [tyK k], by omega, rfl, by simp [besT], HST0.out, HBW.out⟩
 case round =>
  obtain ⟨i, acc, hi, rfl, hacc, ho, hb⟩ := hrel
  have HAcc := Hd hacc
  have HAL : Hid (acc.length ≤ i + 1) := Hd (by rw [hacc]; exact Nat.le_trans (besT_len _ _) (by simp; omega))
  clear hacc
  have HR := Hd (And.intro ho hb)
  obtain ⟨vs, hvs, -⟩ := ho
  obtain ⟨A1, c1, rfl, -⟩ := sliceT hvs
  clear hvs hb
  by_cases hin : i < l.length
  ·have t1 : decide ((i : Int) < (l.length : Int)) = true := by simp; omega
   have wr2 : wrap64 ((i : Int) + 1) = ((i + 1 : Nat) : Int) := wrap_one (by omega)
   have HM := Hd (measI hin)
   have hA2 := HAA.out (by omega)
   obtain ⟨cs, hrep, hcs⟩ := HAT.out i hin
   have HBT := Hd (besT_take (k := k) hin)
   have hnt := HN.out _ (List.getElem_mem hin)
   subst hA2
   generalize l[i] = t at hrep HBT hnt
   have HIN := Hd (infT_names t)
   obtain ⟨k2, s2, n2, ps2, fs2, vs2⟩ := t
   have KI := Hd (infers_ref (.mk k2 s2 n2 ps2 fs2 vs2) K wr wr cs (.slice none 0 0) [] ((hrep.later HB.out).later HR.out.2) (Below.refl _ _) (OutS.nil _ _) List.Pairwise.nil (by simpa using hnt))
   have HREP := Hd (hrep.later HB.out)
   obtain ⟨Aq, cq, Ag, cg, Ah, ch, rfl, -⟩ := hrep.inv
   have HIn : Hid (i + 1 ≤ l.length) := Hd hin
   have HY : Hid (∀ wx, Below w.heap.size w wx → wx.cell? ⟨b, i * 6, none⟩ = some (.int .i64 k2) ∧ wx.cell? ⟨b, i * 6 + 1, none⟩ = some (.string s2) ∧ wx.cell? ⟨b, i * 6 + 2, none⟩ = some (.int .i64 n2) ∧ wx.cell? ⟨b, i * 6 + 3, none⟩ = some (.slice Aq ps2.length cq) ∧ wx.cell? ⟨b, i * 6 + 4, none⟩ = some (.slice Ag fs2.length cg) ∧ wx.cell? ⟨b, i * 6 + 5, none⟩ = some (.slice Ah vs2.length ch)) := Hd fun wx hx =>
    ⟨cell_stays hx (hcs 0 _ rfl), cell_stays hx (hcs 1 _ rfl), cell_stays hx (hcs 2 _ rfl), cell_stays hx (hcs 3 _ rfl), cell_stays hx (hcs 4 _ rfl), cell_stays hx (hcs 5 _ rfl)⟩
   obtain ⟨y0, y1, y2, y3, y4, y5⟩ := HY.out _ HR.out.2
   simp only [cells6T] at KI HREP
   have HNT := Hd hnt
   clear hi hcs hrep hnt
   by_cases hk : k2 = k
   ·have tk : (k2 != k) = false := by simpa using hk
    have HF : Hid ((!(Ty.k (.mk k2 s2 n2 ps2 fs2 vs2) == k) && infT (.mk k2 s2 n2 ps2 fs2 vs2)) = false) := Hd (by simp [Ty.k, hk])
    clear hk KI
    go_wp2_with fail
    refine ⟨⟨i + 1, acc, HIn.out, by first | rfl | rw [wr2], ?p1, HR.out.1, HR.out.2⟩, ?p3⟩
    case p1 => rw [HBT.out, HF.out, HAcc.out]; simp
    case p3 => first | exact HM.out | (rw [wr2]; exact HM.out)
   ·have tk : (k2 != k) = true := by simpa using hk
    have HKK : Hid ((Ty.k (.mk k2 s2 n2 ps2 fs2 vs2) == k) = false) := Hd (by simpa [Ty.k] using hk)
    clear hk
    go_wp2_with fail
    refine KI.out.mono ?_
    rintro e w2 ⟨v2, l2, rfl, h2⟩
    have HB2 := Hd (HR.out.2.trans (h2.low.mono HR.out.2.size))
    have HO2 := Hd (HR.out.1.later h2.low)
    have HL2 : Hid (infT (.mk k2 s2 n2 ps2 fs2 vs2) = decide (0 < l2.length)) := Hd (by
     rw [Bool.eq_iff_iff, HIN.out, decide_eq_true_iff]
     constructor
     ·intro h
      obtain ⟨x, hx⟩ := List.exists_mem_of_ne_nil _ h
      exact List.length_pos_of_mem ((h2.mem x).2 (.inr hx))
     ·intro h e
      obtain ⟨x, hx⟩ := List.exists_mem_of_length_pos h
      rcases (h2.mem x).1 hx with h | h
      ·exact absurd h (by simp)
      ·rw [e] at h; exact absurd h (by simp))
    obtain ⟨A2, c2, rfl, -⟩ := h2.own.list (by have h3 := h2.len; have := HN.out; have h4 := HL.out; simp only [List.length_nil, Nat.zero_add] at h3; have := HNT.out; omega)
    obtain ⟨z0, z1, z2, z3, z4, z5⟩ := HY.out _ HB2.out
    clear h2 KI y0 y1 y2 y3 y4 y5
    by_cases hl2 : 0 < l2.length
    ·have t2 : decide (0 < l2.length) = true := decide_eq_true hl2
     have HF : Hid ((!(Ty.k (.mk k2 s2 n2 ps2 fs2 vs2) == k) && infT (.mk k2 s2 n2 ps2 fs2 vs2)) = true) := Hd (by rw [HKK.out, HL2.out, decide_eq_true hl2]; rfl)
     obtain ⟨vs, hvs, hrs⟩ := HO2.out
     have HOw := Hd (And.intro hvs hrs)
     have HC2 := Hd (cellsT_new w2 [.int .i64 k2, .string s2, .int .i64 n2, .slice Aq ps2.length cq, .slice Ag fs2.length cg, .slice Ah vs2.length ch] 26)
     have HL1 : Hid (acc.length + 1 ≤ 1099511627776) := Hd (by have := HAL.out; have := HIn.out; omega)
     clear hl2 hvs hrs
     go_wp2_with (at_builtin; refine wpList_plain rfl fun K' hK => ?_; go_loud (refine wp_append_own_at _ _ 22 rfl w.heap.size 26 i0 (.agg #[.int .i64 0, .string ⟨#[]⟩, .int .i64 0, .slice none 0 0, .slice none 0 0, .slice none 0 0]) 6 104 Tryz.underlying22 hi0 hz0 hz1 hz2 rfl (by decide) _ _ _ rfl (HOw.out.1.alloc _) ⟨w2.heap.size, 0, none⟩ 1 1 [.int .i64 k2, .string s2, .int .i64 n2, .slice Aq ps2.length cq, .slice Ag fs2.length cg, .slice Ah vs2.length ch] rfl rfl ?a0 ?a1 ?a2 ?a3 ?a4 ?_))
     case a0 => exact HC2.out
     case a1 =>
      intro u hu
      simp only [List.mem_cons, List.not_mem_nil, or_false] at hu
      rcases hu with rfl | rfl | rfl | rfl | rfl | rfl <;> rfl
     case a2 => have := HL1.out; unfold maxLen; omega
     case a3 => have := HL1.out; omega
     case a4 => have := HB2.out.size; simp only [World.size_alloc]; omega
     intro v5 w5 hown5 hg5 _ _
     refine hK _ _ ?_
     clear hK K'
     have HR5 := Hd (out_push2 HB2.out HOw.out.1 HOw.out.2 HREP.out hown5 hg5)
     clear hown5 hg5 z0 z1 z2 z3 z4 z5
     go_wp2_with fail
     refine ⟨⟨i + 1, _, HIn.out, by first | rfl | rw [wr2], ?p1, HR5.out.1, HR5.out.2⟩, ?p3⟩
     case p1 => rw [HBT.out, HF.out, if_pos rfl, HAcc.out]
     case p3 => first | exact HM.out | (rw [wr2]; exact HM.out)
    ·have t2 : decide (0 < l2.length) = false := decide_eq_false hl2
     have HF : Hid ((!(Ty.k (.mk k2 s2 n2 ps2 fs2 vs2) == k) && infT (.mk k2 s2 n2 ps2 fs2 vs2)) = false) := Hd (by rw [HKK.out, HL2.out, decide_eq_false hl2]; rfl)
     clear hl2
     go_wp2_with fail
     refine ⟨⟨i + 1, acc, HIn.out, by first | rfl | rw [wr2], ?p1, HO2.out, HB2.out⟩, ?p3⟩
     case p1 => rw [HBT.out, HF.out, HAcc.out]; simp
     case p3 => first | exact HM.out | (rw [wr2]; exact HM.out)
  ·have t1 : decide ((i : Int) < (l.length : Int)) = false := by simp; omega
   have HE : Hid (l.take i = l) := Hd (List.take_of_length_le (by omega))
   clear hi
   go_wp2_with fail
   go_ret
   have h2 := HAcc.out
   rw [HE.out] at h2
   rw [← h2]
   exact ⟨.slice A1 acc.length c1, rfl, OutT.back HK.out HB.out HR.out.1, HR.out.2⟩
def allR (l : List Ty) : List Ty := if hasK 3 (nonN l) then besT 3 (nonN l) else if hasK 2 (nonN l) then besT 2 (nonN l) else nonN l
def dropR (n s : Bool) (t : Ty) : Bool := t.k == 9 && n || t.k == 10 && s
def keptR (l : List Ty) : List Ty := (allR l).filter fun t => !dropR (hasK 7 (allR l)) (hasK 8 (allR l)) t
theorem hasK_iff {k : Int} {l : List Ty} : hasK k l = true ↔ ∃ t ∈ l, t.k = k := by
 unfold hasK; rw [List.any_eq_true]
 exact ⟨fun ⟨t, h, e⟩ => ⟨t, h, by simpa using e⟩, fun ⟨t, h, e⟩ => ⟨t, h, by simpa using e⟩⟩
theorem mem_nonN {l : List Ty} {t : Ty} : t ∈ nonN l ↔ t ∈ flatU l ∧ t.k ≠ 1 := by
 unfold nonN; rw [List.mem_filter]; simp
theorem hasK_nonN {l : List Ty} {k : Int} (hk : k ≠ 1) : hasK k (nonN l) = hasK k (flatU l) := by
 rw [Bool.eq_iff_iff, hasK_iff, hasK_iff]
 exact ⟨fun ⟨t, h, e⟩ => ⟨t, (mem_nonN.1 h).1, e⟩, fun ⟨t, h, e⟩ => ⟨t, mem_nonN.2 ⟨h, by rw [e]; exact hk⟩, e⟩⟩
theorem mem_besT {k : Int} {l : List Ty} {t : Ty} : t ∈ besT k l ↔ t = tyK k ∨ (t ∈ l ∧ t.k ≠ k ∧ infT t = true) := by
 unfold besT; rw [List.mem_cons, List.mem_filter]; simp
def PlainK (l : List Ty) : Prop := ∀ t ∈ l, (t.k = 3 → t = tyK 3) ∧ (t.k = 2 → t = tyK 2) ∧ (t.k = 7 ∨ t.k = 8 ∨ t.k = 9 ∨ t.k = 10 → infT t = false)
theorem tyK_k (k : Int) : (tyK k).k = k := rfl
theorem has_of {l : List Ty} {t : Ty} (h : t ∈ l) : hasK t.k l = true := hasK_iff.2 ⟨t, h, rfl⟩
theorem keptR_mem {l : List Ty} (hP : PlainK (flatU l)) (t : Ty) : t ∈ keptR l ↔ t ∈ keptU l := by
 unfold keptR keptU
 rw [List.mem_filter, List.mem_filter]
 have n3 : hasK 3 (nonN l) = hasK 3 (flatU l) := hasK_nonN (by decide)
 have n2 : hasK 2 (nonN l) = hasK 2 (flatU l) := hasK_nonN (by decide)
 have hno : ∀ k, (k = 7 ∨ k = 8) → ∀ q, (q = 3 ∨ q = 2) → hasK k (besT q (nonN l)) = false := by
  intro k hk q hq
  rw [← Bool.not_eq_true, hasK_iff]
  rintro ⟨x, hx, e⟩
  rcases mem_besT.1 hx with rfl | ⟨h1, -, h3⟩
  ·rw [tyK_k] at e; omega
  ·rw [(hP x (mem_nonN.1 h1).1).2.2 (by omega)] at h3; exact absurd h3 (by simp)
 unfold allR
 rw [n3, n2]
 cases h3 : hasK 3 (flatU l) with
 | true =>
  simp only [if_true]
  rw [hno 7 (.inl rfl) 3 (.inl rfl), hno 8 (.inr rfl) 3 (.inl rfl), mem_besT, mem_nonN]
  obtain ⟨x, hx, ex⟩ := hasK_iff.1 h3
  have hx3 := (hP x hx).1 ex
  subst hx3
  simp only [dropR, Bool.and_false, Bool.or_false, Bool.not_false, and_true]
  unfold keepT kindsOf
  rw [h3]
  constructor
  ·rintro (rfl | ⟨⟨h1, h4⟩, h5, h6⟩)
   ·exact ⟨hx, by rw [tyK_k]; rfl⟩
   ·refine ⟨h1, ?_⟩
    rw [if_neg h4, if_neg h5]
    simp [h6]
  ·rintro ⟨h1, h2⟩
   by_cases e1 : t.k = 1
   ·rw [if_pos e1] at h2; exact absurd h2 (by simp)
   by_cases e3 : t.k = 3
   ·exact .inl ((hP t h1).1 e3)
   ·rw [if_neg e1, if_neg e3] at h2
    simp at h2
    exact .inr ⟨⟨h1, e1⟩, e3, h2⟩
 | false =>
  simp only [Bool.false_eq_true, if_false]
  have e3 : t ∈ flatU l → t.k ≠ 3 := fun h e => by have := has_of h; rw [e, h3] at this; exact absurd this (by simp)
  cases h2 : hasK 2 (flatU l) with
  | true =>
   simp only [if_true]
   rw [hno 7 (.inl rfl) 2 (.inr rfl), hno 8 (.inr rfl) 2 (.inr rfl), mem_besT, mem_nonN]
   obtain ⟨x, hx, ex⟩ := hasK_iff.1 h2
   have hx2 := (hP x hx).2.1 ex
   subst hx2
   simp only [dropR, Bool.and_false, Bool.or_false, Bool.not_false, and_true]
   unfold keepT kindsOf
   rw [h3, h2]
   constructor
   ·rintro (rfl | ⟨⟨h1, h4⟩, h5, h6⟩)
    ·exact ⟨hx, by rw [tyK_k]; rfl⟩
    ·refine ⟨h1, ?_⟩
     rw [if_neg h4, if_neg (e3 h1)]
     simp [h5, h6]
   ·rintro ⟨h1, hk⟩
    by_cases e1 : t.k = 1
    ·rw [if_pos e1] at hk; exact absurd hk (by simp)
    by_cases e2 : t.k = 2
    ·exact .inl ((hP t h1).2.1 e2)
    ·rw [if_neg e1, if_neg (e3 h1)] at hk
     simp [e2] at hk
     exact .inr ⟨⟨h1, e1⟩, e2, hk⟩
  | false =>
   simp only [Bool.false_eq_true, if_false]
   have e2 : t ∈ flatU l → t.k ≠ 2 := fun h e => by have := has_of h; rw [e, h2] at this; exact absurd this (by simp)
   rw [hasK_nonN (by decide), hasK_nonN (by decide), mem_nonN]
   unfold keepT kindsOf dropR
   rw [h3, h2]
   constructor
   ·rintro ⟨⟨h1, h4⟩, h5⟩
    refine ⟨h1, ?_⟩
    rw [if_neg h4, if_neg (e3 h1), if_neg (by simp [e2 h1])]
    by_cases k9 : t.k = 9 <;> by_cases k10 : t.k = 10 <;> simp_all
   ·rintro ⟨h1, hk⟩
    by_cases e1 : t.k = 1
    ·rw [if_pos e1] at hk; exact absurd hk (by simp)
    rw [if_neg e1, if_neg (e3 h1), if_neg (by simp [e2 h1])] at hk
    refine ⟨⟨h1, e1⟩, ?_⟩
    by_cases k9 : t.k = 9 <;> by_cases k10 : t.k = 10 <;> simp_all
theorem unionR {l : List Ty} (hP : PlainK (flatU l)) : shutU (sortT (keptR l)) = unionT l := by
 unfold unionT
 rw [sortT_of (asc_sortT (keptU l)) fun x => by rw [mem_sortT, keptR_mem hP]]
theorem has_src {K : Nat → Prop} {w0 w : World} {l : List Ty} {A : Option Addr} {c : Nat} (hL : SrcT K w0 w A l) (k : Int) :
  Calls Tryz.prog 30 #[.slice A l.length c, .int .i64 k] w fun e w' => e = .returned (.bool (hasK k l)) ∧ w' = w := by
 obtain ⟨b, hAA, hll, hat0⟩ := hL
 have HAA := Hd hAA
 have HAT := Hd hat0
 clear hAA hat0
 go_enter Tryz.func30, Tryz.ntmps30
 go_wp2_with fail
 go_loopw [5] (fun v wr => ∃ (i : Nat), i ≤ l.length ∧ v = .int .i64 i ∧ hasK k l = hasK k (l.drop i) ∧ wr = w) (fun v _ => l.length - (intOf v).toNat)
 case atStart => exact ⟨0, by omega, rfl, by rw [List.drop_zero], rfl⟩
 case round =>
  obtain ⟨i, hi, rfl, he, rfl⟩ := hrel
  have HE := Hd he
  clear he
  by_cases hin : i < l.length
  ·have t1 : decide ((i : Int) < (l.length : Int)) = true := by simp; omega
   have wr2 : wrap64 ((i : Int) + 1) = ((i + 1 : Nat) : Int) := wrap_one (by omega)
   have hA := HAA.out (by omega)
   subst hA
   obtain ⟨q, hq, hcq⟩ : ∃ q, (l[i]'hin).k = q ∧ wr.cell? ⟨b, i * 6, none⟩ = some (.int .i64 q) := by
    obtain ⟨cs, h1, h2⟩ := HAT.out i hin
    generalize l[i] = t at h1
    obtain ⟨k, s, n, ps, fs, vs⟩ := t
    obtain ⟨_, _, _, _, _, _, rfl, -⟩ := h1.inv
    exact ⟨k, rfl, h2 0 _ rfl⟩
   have HS : Hid (hasK k (l.drop i) = ((l[i]'hin).k == k || hasK k (l.drop (i + 1)))) := Hd (by rw [List.drop_eq_getElem_cons hin]; rfl)
   have HM := Hd (measI hin)
   have HIn : Hid (i + 1 ≤ l.length) := Hd hin
   by_cases hk : q = k
   ·have HK : Hid (((l[i]'hin).k == k) = true) := Hd (by rw [hq]; simpa using hk)
    have e13 : (q == k) = true := by simpa using hk
    clear hi hq hk
    go_wp2_with fail
    go_ret
    exact ⟨by rw [HE.out, HS.out, HK.out]; rfl, rfl⟩
   ·have HK : Hid (((l[i]'hin).k == k) = false) := Hd (by rw [hq]; simpa using hk)
    have e13 : (q == k) = false := by simpa using hk
    clear hi hq hk
    go_wp2_with fail
    refine ⟨⟨i + 1, HIn.out, by first | rfl | rw [wr2], by rw [HE.out, HS.out, HK.out]; rfl, by first | rfl | trivial⟩, ?_⟩
    first | exact HM.out | (rw [wr2]; exact HM.out)
  ·have t1 : decide ((i : Int) < (l.length : Int)) = false := by simp; omega
   have HE1 : Hid (hasK k l = false) := Hd (by rw [HE.out, List.drop_eq_nil_of_le (by omega)]; rfl)
   clear hi
   go_wp2_with fail
   go_ret
   exact ⟨by rw [HE1.out]; rfl, rfl⟩
theorem cntL_cons (a : Ty) (l : List Ty) : cntL (a :: l) = cntT a + cntL l := by simp [cntL]
theorem namesP_cnt (k : Int) : ∀ (ps : List Ty) (i : Nat), (∀ p ∈ ps, (namesI p).length ≤ cntT p) → (namesP k i ps).length ≤ cntL ps
 | [], _, _ => by simp [namesP, cntL]
 | p :: l, i, h => by
  have h1 := h p List.mem_cons_self
  have h2 := namesP_cnt k l (i + 1) fun q hq => h q (List.mem_cons_of_mem _ hq)
  rw [namesP, cntL_cons, List.length_append]
  split
  ·simp only [List.length_nil]; omega
  ·omega
theorem namesF_cnt : ∀ (fs : FsT), (∀ f ∈ fs, (namesI f.2.2).length ≤ cntT f.2.2) → (namesF fs).length ≤ cntF fs
 | [], _ => by simp [namesF]
 | f :: l, h => by
  have h1 := h f List.mem_cons_self
  have h2 := namesF_cnt l fun q hq => h q (List.mem_cons_of_mem _ hq)
  have e1 : namesF (f :: l) = namesI f.2.2 ++ namesF l := by simp [namesF]
  have e2 : cntF (f :: l) = cntT f.2.2 + cntF l := by simp [cntF]
  rw [e1, e2, List.length_append]; omega
theorem names_cnt (t : Ty) : (namesI t).length ≤ cntT t := by
 refine Ty.ind (C := fun t => (namesI t).length ≤ cntT t) (fun k t n ps fs vs hp hf _ => ?_) t
 rw [namesI_mk, cntT_mk]
 have h1 := namesP_cnt k ps 0 hp
 have h2 := namesF_cnt fs hf
 split
 ·simp only [List.length_singleton]; omega
 ·rw [List.length_append]; omega
theorem cntT_pos (t : Ty) : 1 ≤ cntT t := by
 obtain ⟨k, s, n, ps, fs, vs⟩ := t
 rw [cntT_mk]; omega
theorem cntL_mem : ∀ {l : List Ty} {x : Ty}, x ∈ l → cntT x ≤ cntL l
 | a :: l, x, h => by
  rw [cntL_cons]
  rcases List.mem_cons.1 h with rfl | h
  ·omega
  ·have := cntL_mem h; omega
theorem flatU_cnt_of : ∀ (l : List Ty), (∀ p ∈ l, (parts1 p).length ≤ cntT p ∧ ∀ x ∈ parts1 p, cntT x ≤ cntT p) → (flatU l).length ≤ cntL l ∧ ∀ x ∈ flatU l, cntT x ≤ cntL l
 | [], _ => ⟨by simp [flatU], fun x h => absurd h (by simp [flatU])⟩
 | a :: l, h => by
  obtain ⟨h1, h2⟩ := h a List.mem_cons_self
  obtain ⟨h3, h4⟩ := flatU_cnt_of l fun q hq => h q (List.mem_cons_of_mem _ hq)
  rw [flatU_cons, cntL_cons, List.length_append]
  refine ⟨by omega, fun x hx => ?_⟩
  rcases List.mem_append.1 hx with hx | hx
  ·have := h2 x hx; omega
  ·have := h4 x hx; omega
theorem parts1_cnt (t : Ty) : (parts1 t).length ≤ cntT t ∧ ∀ x ∈ parts1 t, cntT x ≤ cntT t := by
 refine Ty.ind (C := fun t => (parts1 t).length ≤ cntT t ∧ ∀ x ∈ parts1 t, cntT x ≤ cntT t) (fun k t n ps fs vs hp _ _ => ?_) t
 rw [parts1_mk]
 split
 ·obtain ⟨h1, h2⟩ := flatU_cnt_of ps hp
  rw [cntT_mk]
  exact ⟨by omega, fun x hx => by have := h2 x hx; omega⟩
 ·refine ⟨by have := cntT_pos (.mk k t n ps fs vs); simpa using this, fun x hx => ?_⟩
  rw [List.mem_singleton] at hx
  subst hx; exact Nat.le_refl _
theorem flatU_cnt (l : List Ty) : (flatU l).length ≤ cntL l ∧ ∀ x ∈ flatU l, cntT x ≤ cntL l := flatU_cnt_of l fun p _ => parts1_cnt p
theorem parts1_form (t : Ty) : formT t = true → ∀ x ∈ parts1 t, formT x = true := by
 refine Ty.ind (C := fun t => formT t = true → ∀ x ∈ parts1 t, formT x = true) (fun k t n ps fs vs hp _ _ h x hx => ?_) t
 rw [parts1_mk] at hx
 split at hx
 ·rw [formT_mk, Bool.and_eq_true, List.all_eq_true] at h
  unfold flatU at hx
  rw [List.mem_flatten] at hx
  obtain ⟨m, hm, hx⟩ := hx
  obtain ⟨p, hpm, rfl⟩ := List.mem_map.1 hm
  exact hp p hpm (h.2 p hpm) x hx
 ·rw [List.mem_singleton] at hx
  subst hx; exact h
theorem flatU_form {l : List Ty} (h : l.all formT = true) : ∀ x ∈ flatU l, formT x = true := fun x hx => by
 unfold flatU at hx
 rw [List.mem_flatten] at hx
 obtain ⟨m, hm, hx⟩ := hx
 obtain ⟨p, hpm, rfl⟩ := List.mem_map.1 hm
 exact parts1_form p (List.all_eq_true.1 h p hpm) x hx
theorem fits_none {s : Shp} {t : ByteArray} {n : Int} {np nf nv : Nat} (h : fitsB s t n np nf nv = true) (hs : s.hi = 0) (hf : s.f = false) (hv : s.v = false) : np = 0 ∧ nf = 0 ∧ nv = 0 ∧ (s.t = false → t.toList = []) ∧ (s.n = false → n = 0) := by
 unfold fitsB at h
 rw [hs, hf, hv] at h
 simp only [Bool.and_eq_true, Bool.not_eq_true', Bool.or_eq_false_iff, Bool.or_eq_true, decide_eq_true_eq, beq_iff_eq, Bool.not_false, Bool.true_and, decide_eq_false_iff_not] at h
 obtain ⟨⟨⟨⟨h1, h2⟩, h3⟩, h4⟩, h5, h6⟩ := h
 refine ⟨by omega, by omega, by omega, fun e => ?_, fun e => ?_⟩
 ·rw [e] at h1; simpa using h1
 ·rw [e] at h2; simpa using h2
theorem form_fits {k : Int} {t : ByteArray} {n : Int} {ps : List Ty} {fs : FsT} {vs : VsT} (h : formT (.mk k t n ps fs vs) = true) : fitsB (shapeK k) t n ps.length fs.length vs.length = true := by
 rw [formT_mk, Bool.and_eq_true, Bool.and_eq_true, Bool.and_eq_true] at h
 exact h.1.1.2
theorem form_kind {k : Int} {x : Ty} (hx : formT x = true) (hk : x.k = k) (h1 : 1 ≤ k) (h8 : k ≤ 8) : x = tyK k := by
 obtain ⟨q, t, n, ps, fs, vs⟩ := x
 have e : q = k := hk
 subst e
 have hs : shapeK q = ⟨false, false, false, false, 0, 0, true⟩ := by unfold shapeK; rw [if_pos ⟨h1, h8⟩]
 have hf := form_fits hx
 rw [hs] at hf
 obtain ⟨a, b, c, d, e⟩ := fits_none hf rfl rfl rfl
 have ht : t = emptyB := bytes_ext (by have := d rfl; rw [ByteArray.toList_eq] at this; rw [this]; rfl)
 rw [List.eq_nil_of_length_eq_zero a, List.eq_nil_of_length_eq_zero b, List.eq_nil_of_length_eq_zero c, ht, e rfl]
 rfl
theorem form_leaf {x : Ty} (hx : formT x = true) (hk : x.k = 7 ∨ x.k = 8 ∨ x.k = 9 ∨ x.k = 10) : infT x = false := by
 obtain ⟨q, t, n, ps, fs, vs⟩ := x
 have hk' : q = 7 ∨ q = 8 ∨ q = 9 ∨ q = 10 := hk
 have hf := form_fits hx
 have h0 : ps.length = 0 ∧ fs.length = 0 := by
  rcases hk' with rfl | rfl | rfl | rfl <;> (have := fits_none hf rfl rfl rfl; exact ⟨this.1, this.2.1⟩)
 have e : (q == 22) = false := by rcases hk' with rfl | rfl | rfl | rfl <;> rfl
 rw [infT_mk, List.eq_nil_of_length_eq_zero h0.1, List.eq_nil_of_length_eq_zero h0.2, e]
 rfl
theorem plain_form {l : List Ty} (h : l.all formT = true) : PlainK (flatU l) := fun x hx =>
 have hf := flatU_form h x hx
 ⟨fun e => form_kind hf e (by decide) (by decide), fun e => form_kind hf e (by decide) (by decide), form_leaf hf⟩
theorem put_nil {K' : Nat → Prop} {w0 w : World} {t : Ty} (x0 : Int) (x1 : ByteArray) (x2 : Int) (x3 : Option Addr) (x4 x5 : Nat) (x6 : Option Addr) (x7 x8 : Nat) (x9 : Option Addr) (xa xb : Nat) (ht : RepT K' w0 t [.int .i64 x0, .string x1, .int .i64 x2, .slice x3 x4 x5, .slice x6 x7 x8, .slice x9 xa xb]) (hb : Below w0.heap.size w0 w) :
  Calls Tryz.prog 32 #[.slice none 0 0, .agg #[.int .i64 x0, .string x1, .int .i64 x2, .slice x3 x4 x5, .slice x6 x7 x8, .slice x9 xa xb]] w (PutPost K' w0 [] t) := by
 have HBA : Hid (Below w0.heap.size w0 (w.alloc (.cells #[.int .i64 x0, .string x1, .int .i64 x2, .slice x3 x4 x5, .slice x6 x7 x8, .slice x9 xa xb] 26))) := Hd (hb.alloc hb.size _)
 have HBX : Hid ((w.alloc (.cells #[.int .i64 x0, .string x1, .int .i64 x2, .slice x3 x4 x5, .slice x6 x7 x8, .slice x9 xa xb] 26)).heap[w.heap.size]? = some (.cells #[.int .i64 x0, .string x1, .int .i64 x2, .slice x3 x4 x5, .slice x6 x7 x8, .slice x9 xa xb] 26 (0, 0))) := Hd (heap_alloc_new w _)
 have HT := Hd ht
 obtain ⟨i0, hi0, hz0, hz1, hz2⟩ := partsT infoTy
 unfold PutPost
 clear ht hb
 go_enter Tryz.func32, Tryz.ntmps32
 go_wp2_with fail
 go_loopw [5] (fun v wr => v = .int .i64 0 ∧ wr = w.alloc (.cells #[.int .i64 x0, .string x1, .int .i64 x2, .slice x3 x4 x5, .slice x6 x7 x8, .slice x9 xa xb] 26)) (fun _ _ => 0)
 case atStart => exact ⟨rfl, rfl⟩
 case round =>
  obtain ⟨rfl, rfl⟩ := hrel
  go_wp2_with fail
  refine wp_region_held_drew (S := (fun _ => True)) (by kernel_rfl) trivial (fun hHeld => ?_)
  refine Plan.start [0, 1, 2] ?_
  iterate 3 (refine Plan.tk (so rfl) hHeld ?_; try simp only [Act.put, pz1, pz2, pz3])
  refine Plan.done ?_
  refine Plan.start [3, 4, 5, 6, 7, 8, 9, 10] ?_
  iterate 8 (refine Plan.take (v := undef) (so rfl) (by kernel_rfl) (by kernel_rfl) (by kernel_rfl) (fun _ _ _ h => h) (Or.inr ⟨by rfl, rfl⟩) hHeld ?_; try simp only [Act.put, pz1, pz2, pz3])
  refine Plan.done ?_
  refine Plan.start [11] ?_
  refine Plan.tk (so rfl) hHeld ?_
  try simp only [Act.put, pz1, pz2, pz3]
  refine Plan.done ?_
  refine wpAnyH_done (by kernel_rfl) ?_ _
  clear hHeld
  go_wp2_with fail
  refine wp_region_held_drew (S := (fun _ => True)) (by kernel_rfl) trivial (fun hHeld => ?_)
  refine Plan.start [0, 1, 2] ?_
  iterate 3 (refine Plan.tk (so rfl) hHeld ?_; try simp only [Act.put, pz1, pz2, pz3])
  refine Plan.done ?_
  refine Plan.start [3, 4, 5, 6, 7, 8, 9, 10] ?_
  iterate 8 (refine Plan.take (v := undef) (so rfl) (by kernel_rfl) (by kernel_rfl) (by kernel_rfl) (fun _ _ _ h => h) (Or.inr ⟨by rfl, rfl⟩) hHeld ?_; try simp only [Act.put, pz1, pz2, pz3])
  refine Plan.done ?_
  refine Plan.start [11] ?_
  refine Plan.tk (so rfl) hHeld ?_
  try simp only [Act.put, pz1, pz2, pz3]
  refine Plan.done ?_
  refine wpAnyH_done (by kernel_rfl) ?_ _
  clear hHeld
  have hw1 : (w.alloc (.cells #[.int .i64 x0, .string x1, .int .i64 x2, .slice x3 x4 x5, .slice x6 x7 x8, .slice x9 xa xb] 26)).heap.size = w.heap.size + 1 := World.size_alloc _ _
  have HOWA : Hid ((((w.alloc (.cells #[.int .i64 x0, .string x1, .int .i64 x2, .slice x3 x4 x5, .slice x6 x7 x8, .slice x9 xa xb] 26)).alloc (.cells #[.int .i64 x0, .string x1, .int .i64 x2, .slice x3 x4 x5, .slice x6 x7 x8, .slice x9 xa xb] 26)).drew.drew).ownsRow w0.heap.size 26 6 (.slice none 0 0) 0 []) := Hd (World.ownsRow_nil _ _ _ _)
  have HC2 := Hd (cellsT_new (w.alloc (.cells #[.int .i64 x0, .string x1, .int .i64 x2, .slice x3 x4 x5, .slice x6 x7 x8, .slice x9 xa xb] 26)) [.int .i64 x0, .string x1, .int .i64 x2, .slice x3 x4 x5, .slice x6 x7 x8, .slice x9 xa xb] 26)
  rw [hw1] at HC2
  obtain ⟨y0, y1, y2, y3, y4, y5⟩ := row6 _ _ _ _ _ _ _ _ _ _ _ _ HBX.out
  have HW1 := Hd hw1
  clear hw1
  go_wp2_with (at_builtin; refine wpList_plain rfl fun K hK => ?_; go_loud (refine wp_append_own_at _ _ 22 rfl w0.heap.size 26 i0 (.agg #[.int .i64 0, .string ⟨#[]⟩, .int .i64 0, .slice none 0 0, .slice none 0 0, .slice none 0 0]) 6 104 Tryz.underlying22 hi0 hz0 hz1 hz2 rfl (by decide) _ _ _ rfl HOWA.out ⟨w.heap.size + 1, 0, none⟩ 1 1 [.int .i64 x0, .string x1, .int .i64 x2, .slice x3 x4 x5, .slice x6 x7 x8, .slice x9 xa xb] rfl rfl ?a0 ?a1 ?a2 ?a3 ?a4 ?_))
  case a0 => exact HC2.out
  case a1 =>
   intro u hu
   simp only [List.mem_cons, List.not_mem_nil, or_false] at hu
   rcases hu with rfl | rfl | rfl | rfl | rfl | rfl <;> rfl
  case a2 => unfold maxLen; omega
  case a3 => omega
  case a4 =>
   have h3 : ((w.alloc (.cells #[.int .i64 x0, .string x1, .int .i64 x2, .slice x3 x4 x5, .slice x6 x7 x8, .slice x9 xa xb] 26)).alloc (.cells #[.int .i64 x0, .string x1, .int .i64 x2, .slice x3 x4 x5, .slice x6 x7 x8, .slice x9 xa xb] 26)).heap.size = (w.alloc (.cells #[.int .i64 x0, .string x1, .int .i64 x2, .slice x3 x4 x5, .slice x6 x7 x8, .slice x9 xa xb] 26)).heap.size + 1 := World.size_alloc _ _
   have h5 := HBA.out.size
   show w0.heap.size ≤ ((w.alloc (.cells #[.int .i64 x0, .string x1, .int .i64 x2, .slice x3 x4 x5, .slice x6 x7 x8, .slice x9 xa xb] 26)).alloc (.cells #[.int .i64 x0, .string x1, .int .i64 x2, .slice x3 x4 x5, .slice x6 x7 x8, .slice x9 xa xb] 26)).heap.size
   omega
  intro v5 w5 hown5 hg5 _ hwhere
  refine hK _ _ ?_
  clear hK K y0 y1 y2 y3 y4 y5
  have hp5 := out_push2 (v := .slice none 0 0) (os := []) (vs := []) (w2 := (w.alloc (.cells #[.int .i64 x0, .string x1, .int .i64 x2, .slice x3 x4 x5, .slice x6 x7 x8, .slice x9 xa xb] 26)).drew.drew) HBA.out.drew.drew (World.ownsRow_nil _ _ _ _) (fun i h => absurd h (by simp)) HT.out hown5 hg5
  have hbox5 : w5.heap[w.heap.size]? = some (.cells #[.int .i64 x0, .string x1, .int .i64 x2, .slice x3 x4 x5, .slice x6 x7 x8, .slice x9 xa xb] 26 (0, 0)) := by
   have hlt := (Array.getElem?_eq_some_iff.1 HBX.out).1
   have h3 : ((w.alloc (.cells #[.int .i64 x0, .string x1, .int .i64 x2, .slice x3 x4 x5, .slice x6 x7 x8, .slice x9 xa xb] 26)).alloc (.cells #[.int .i64 x0, .string x1, .int .i64 x2, .slice x3 x4 x5, .slice x6 x7 x8, .slice x9 xa xb] 26)).heap.size = (w.alloc (.cells #[.int .i64 x0, .string x1, .int .i64 x2, .slice x3 x4 x5, .slice x6 x7 x8, .slice x9 xa xb] 26)).heap.size + 1 := World.size_alloc _ _
   have h6 : ((w.alloc (.cells #[.int .i64 x0, .string x1, .int .i64 x2, .slice x3 x4 x5, .slice x6 x7 x8, .slice x9 xa xb] 26)).alloc (.cells #[.int .i64 x0, .string x1, .int .i64 x2, .slice x3 x4 x5, .slice x6 x7 x8, .slice x9 xa xb] 26)).heap[w.heap.size]? = (w.alloc (.cells #[.int .i64 x0, .string x1, .int .i64 x2, .slice x3 x4 x5, .slice x6 x7 x8, .slice x9 xa xb] 26)).heap[w.heap.size]? := Below.heap_alloc (w.alloc (.cells #[.int .i64 x0, .string x1, .int .i64 x2, .slice x3 x4 x5, .slice x6 x7 x8, .slice x9 xa xb] 26)) _ _ hlt
   exact (hg5.block w.heap.size (by show w.heap.size < ((w.alloc (.cells #[.int .i64 x0, .string x1, .int .i64 x2, .slice x3 x4 x5, .slice x6 x7 x8, .slice x9 xa xb] 26)).alloc (.cells #[.int .i64 x0, .string x1, .int .i64 x2, .slice x3 x4 x5, .slice x6 x7 x8, .slice x9 xa xb] 26)).heap.size; omega) (fun e => by cases e)).trans (h6.trans HBX.out)
  rcases InT.of_out hp5.1 with ⟨-, hnil⟩ | ⟨g5, c5, hv5, hgg5, hin5⟩
  ·exact absurd hnil (by simp)
  have hgne : g5 ≠ w.heap.size := by
   rcases hwhere with h | h
   ·rw [hv5] at h
    cases h
   ·rw [hv5] at h
    have h1 := HW1.out
    have h2 : g5 = (w.alloc (.cells #[.int .i64 x0, .string x1, .int .i64 x2, .slice x3 x4 x5, .slice x6 x7 x8, .slice x9 xa xb] 26)).heap.size + 1 := by first | exact Option.some.inj h | (have h3 := Option.some.inj h; simpa using h3)
    omega
  subst hv5
  rw [List.nil_append] at hin5
  have HSET : Hid (InT K' w0 (w5.setCells g5 (0 * 6) [.int .i64 x0, .string x1, .int .i64 x2, .slice x3 x4 x5, .slice x6 x7 x8, .slice x9 xa xb]) g5 c5 [t]) := Hd (InT.set (a := []) (b := []) hin5 HT.out)
  have hset := (HSET.out).out hgg5
  have HFIN : Hid (OutT K' w0 (w5.setCells g5 0 [.int .i64 x0, .string x1, .int .i64 x2, .slice x3 x4 x5, .slice x6 x7 x8, .slice x9 xa xb]) (.slice (some ⟨g5, 0, none⟩) 1 c5) (insT t []) ∧ Below w0.heap.size w0 (w5.setCells g5 0 [.int .i64 x0, .string x1, .int .i64 x2, .slice x3 x4 x5, .slice x6 x7 x8, .slice x9 xa xb])) := Hd ⟨hset, sets_below hgg5 _ _ _ hp5.2⟩
  obtain ⟨r0, r1, r2, r3, r4, r5, r6, r7, r8, r9, ra, rb, hr, -⟩ := hin5.sixAt (i := 0) (t := t) rfl
  simp only [Nat.zero_mul, Nat.zero_add] at hr
  obtain ⟨r0', r1', r2', r3', r4', r5'⟩ := hr
  obtain ⟨z0, z1, z2, z3, z4, z5⟩ := row6 _ _ _ _ _ _ _ _ _ _ _ _ hbox5
  have hbk5 := hin5.blk
  obtain ⟨cur, hcur, -⟩ := hbk5
  have hfr : ∀ o, w5.frozen? ⟨g5, o, none⟩ = false := fun o => Lib.frozen_of_heap hcur o
  clear hown5 hg5 hp5 hbox5 hwhere hin5 hgne hgg5 hset hcur
  go_wp2_with fail
  go_loopw [6] (fun v wr => v = .int .i64 0 ∧ wr = w5) (fun _ _ => 0)
  case atStart => exact ⟨by first | rfl | simp, rfl⟩
  case round =>
   obtain ⟨rfl, rfl⟩ := hrel
   go_wp2_with fail
   go_ret
   exact ⟨_, rfl, HFIN.out.1, HFIN.out.2⟩
theorem form_11 {t : ByteArray} {n : Int} {ps : List Ty} {fs : FsT} {vs : VsT} (h : formT (.mk 11 t n ps fs vs) = true) : ∃ q, ps = [q] := by
 have hf := form_fits h
 have hs : shapeK 11 = ⟨false, false, false, false, 1, 1, true⟩ := rfl
 rw [hs] at hf
 unfold fitsB at hf
 simp only [Bool.and_eq_true, Bool.not_eq_true', Bool.or_eq_false_iff, Bool.or_eq_true, decide_eq_true_eq, beq_iff_eq, Bool.not_false, Bool.true_and, decide_eq_false_iff_not] at hf
 obtain ⟨_, h5, h6⟩ := hf
 have h7 : ps.length = 1 := by omega
 exact List.length_eq_one_iff.1 h7
def FormR (t : Ty) : Prop := ∀ (K : Nat → Prop) (w : World) (cs : List Value), RepT K w t cs → cntT t ≤ 1000000 → Calls Tryz.prog 23 #[.agg cs.toArray] w fun e w' => e = .returned (.bool (formT t)) ∧ Below w.heap.size w w'
theorem allF_drop {l : List Ty} {i : Nat} (h : i < l.length) : (l.drop i).all formT = (formT l[i] && (l.drop (i + 1)).all formT) := by rw [List.drop_eq_getElem_cons h]; rfl
theorem all_ref (l : List Ty) (h : ∀ p ∈ l, FormR p) {K : Nat → Prop} {w : World} {A : Option Addr} {c : Nat} (hL : ListT K w l A c) (hc : cntL l ≤ 1000000) :
  Calls Tryz.prog 45 #[.slice A l.length c] w fun e w' => e = .returned (.bool (l.all formT)) ∧ Below w.heap.size w w' := by
 have HL := Hd hL
 have HH := Hd h
 have HC := Hd hc
 have hll := hL.short
 clear hL h hc
 go_enter Tryz.func45, Tryz.ntmps45
 go_wp2_with fail
 go_loopw [3] (fun v wr => ∃ (i : Nat), i ≤ l.length ∧ v = .int .i64 i ∧ l.all formT = (l.drop i).all formT ∧ Below w.heap.size w wr) (fun v _ => l.length - (intOf v).toNat)
 case atStart => exact ⟨0, by omega, rfl, by rw [List.drop_zero], Below.refl _ _⟩
 case round =>
  obtain ⟨i, hi, rfl, he, hb⟩ := hrel
  have HE := Hd he
  have HB := Hd hb
  clear he hb
  by_cases hin : i < l.length
  ·have t1 : decide ((i : Int) < (l.length : Int)) = true := by simp; omega
   have wr2 : wrap64 ((i : Int) + 1) = ((i + 1 : Nat) : Int) := wrap_one (by omega)
   have HM := Hd (measI hin)
   obtain ⟨b, o, hA, _, hat⟩ := HL.out.at (by omega)
   have hti := hat i hin
   have hpi := HH.out _ (List.getElem_mem hin)
   have HS := Hd (allF_drop hin)
   have hci := Nat.le_trans (cntL_mem (List.getElem_mem hin)) HC.out
   have HIn : Hid (i + 1 ≤ l.length) := Hd hin
   subst hA
   generalize l[i] = t at hti hpi HS hci
   obtain ⟨cs, hcs, hrep⟩ := hti
   have KI := Hd (hpi K wr cs (hrep.later HB.out) hci)
   generalize formT t = q at HS KI
   obtain ⟨k2, s2, n2, ps2, fs2, vs2⟩ := t
   obtain ⟨Aq, cq, Ag, cg, Ah, ch, rfl, -⟩ := hrep.inv
   have y0 := cell_stays HB.out (hcs 0 _ rfl)
   have y1 := cell_stays HB.out (hcs 1 _ rfl)
   have y2 := cell_stays HB.out (hcs 2 _ rfl)
   have y3 := cell_stays HB.out (hcs 3 _ rfl)
   have y4 := cell_stays HB.out (hcs 4 _ rfl)
   have y5 := cell_stays HB.out (hcs 5 _ rfl)
   rw [Nat.add_zero] at y0
   simp only [cells6T] at KI
   clear hi hat hpi hcs hrep hci
   go_wp2_with fail
   refine KI.out.mono ?_
   rintro e w2 ⟨rfl, hb2⟩
   have HB2 := Hd (below_then HB.out hb2)
   clear hb2 KI y0 y1 y2 y3 y4 y5
   cases q with
   | true =>
    go_wp2_with fail
    refine ⟨⟨i + 1, HIn.out, by first | rfl | rw [wr2], by rw [HE.out, HS.out]; rfl, HB2.out⟩, ?_⟩
    first | exact HM.out | (rw [wr2]; exact HM.out)
   | false =>
    go_wp2_with fail
    go_ret
    exact ⟨by rw [HE.out, HS.out]; rfl, HB2.out⟩
  ·have t1 : decide ((i : Int) < (l.length : Int)) = false := by simp; omega
   have HE1 : Hid (l.all formT = true) := Hd (by rw [HE.out, List.drop_eq_nil_of_le (by omega)]; rfl)
   clear hi
   go_wp2_with fail
   go_ret
   exact ⟨by rw [HE1.out]; rfl, HB.out⟩
theorem put_any {K : Nat → Prop} {w0 w : World} {v : Value} {F : List Ty} {t : Ty} {cs : List Value} (hO : OutT K w0 w v F) (hA : Asc F) (ht : RepT K w0 t cs) (hb : Below w0.heap.size w0 w) (hbd : F.length + 1 ≤ 1099511627776) :
  Calls Tryz.prog 32 #[v, .agg cs.toArray] w (PutPost K w0 F t) := by
 obtain ⟨k, s, n, ps, fs, vs⟩ := t
 obtain ⟨A, c, A', c', A'', c'', rfl, -⟩ := ht.inv
 rcases InT.of_out hO with ⟨rfl, rfl⟩ | ⟨g, c1, rfl, hg, hin⟩
 ·exact put_nil _ _ _ _ _ _ _ _ _ _ _ _ ht hb
 ·exact put_row _ _ _ _ _ _ _ _ _ _ _ _ hin hg hA ht hb hbd
end Go.Proofs.YtgjblmlibhppiaaGreatDoor
