import Derived.Test.YtfchnfnifpopnaaGreatDoorMa0
import Derived.Test.YtfchnfnifpopnaaGreatDoorMa3
import Derived.ArgAppend
import Derived.Maps.AppendAt
import Derived.OwnWalk
set_option maxRecDepth 100000
set_option maxHeartbeats 64000000
namespace Go.Proofs.YtfchnfnifpopnaaGreatDoor
open Go.RowKit
theorem pattern_any {k : Int} {w : World} {b o : Nat} (h : w.cell? ⟨b, o, none⟩ = some (.int .i64 k)) (i : Nat) : Calls Tryz.prog 87 #[.pointer (some ⟨b, o, none⟩), .int .i64 i] w fun e w' => e = .returned (.bool (k == 21 && i == 1)) ∧ w' = w := by
 by_cases hk : k = 21
 ·have te : (k == 21) = true := by simpa using hk
  have ti : ((i : Int) == 1) = (i == 1) := by rw [Bool.eq_iff_iff, beq_iff_eq, beq_iff_eq]; omega
  generalize (i == 1) = q at ti ⊢
  clear hk
  go_enter Tryz.func87, Tryz.ntmps87
  go_wp2_with fail
  go_ret
  exact ⟨by rw [te]; rfl, rfl⟩
 ·have te : (k == 21) = false := by simpa using hk
  clear hk
  go_enter Tryz.func87, Tryz.ntmps87
  go_wp2_with fail
  go_ret
  exact ⟨by rw [te]; rfl, rfl⟩
def InfP (t : Ty) : Prop := ∀ (K : Nat → Prop) (w : World) (b o : Nat), AtT K w t b o → Calls Tryz.prog 70 #[.pointer (some ⟨b, o, none⟩)] w fun e w' => e = .returned (.bool (infT t)) ∧ w' = w
theorem infPs_drop {k : Int} {ps : List Ty} {i : Nat} (h : i < ps.length) : infPs k i (ps.drop i) = ((!(k == 21 && i == 1) && infT ps[i]) || infPs k (i + 1) (ps.drop (i + 1))) := by
 rw [List.drop_eq_getElem_cons h, infPs]
theorem infFs_drop {fs : List (ByteArray × Int × Ty)} {i : Nat} (h : i < fs.length) : infFs (fs.drop i) = (infT fs[i].2.2 || infFs (fs.drop (i + 1))) := by
 rw [List.drop_eq_getElem_cons h, infFs, List.any_cons]; rfl
theorem inf_p {K : Nat → Prop} {ps : List Ty} {w : World} {A : Option Addr} {c i : Nat} (hP : ListT K w ps A c) (h : ∀ p ∈ ps, InfP p) (hi : i < ps.length) : ∃ b o, A = some ⟨b, o, none⟩ ∧ Calls Tryz.prog 70 #[.pointer (some ⟨b, o + i * 6, none⟩)] w fun e w' => e = .returned (.bool (infT ps[i])) ∧ w' = w := by
 obtain ⟨b, o, hA, _, hr⟩ := hP.at (by omega)
 exact ⟨b, o, hA, h _ (List.getElem_mem hi) K w b _ (hr i hi)⟩
theorem inf_f {K : Nat → Prop} {fs : List (ByteArray × Int × Ty)} {w : World} {A : Option Addr} {c i : Nat} (hP : ListF K w fs A c) (h : ∀ f ∈ fs, InfP f.2.2) (hi : i < fs.length) : ∃ b o, A = some ⟨b, o, none⟩ ∧ Calls Tryz.prog 70 #[.pointer (some ⟨b, o + i * 8 + 2, none⟩)] w fun e w' => e = .returned (.bool (infT fs[i].2.2)) ∧ w' = w := by
 obtain ⟨b, o, hA, _, hr⟩ := hP.at (by omega)
 exact ⟨b, o, hA, h _ (List.getElem_mem hi) K w b _ (hr i hi).2.2.2⟩
theorem ListF.shortF {K : Nat → Prop} {w : World} {l : List (ByteArray × Int × Ty)} {A : Option Addr} {c : Nat} (h : ListF K w l A c) : l.length ≤ 1000000000000000 := by
 obtain ⟨_, _, hr, _⟩ := h
 exact hr.big
theorem inf_step (k : Int) (t : ByteArray) (n : Int) (ps : List Ty) (fs : List (ByteArray × Int × Ty)) (vs : List (ByteArray × List Ty)) (hp : ∀ p ∈ ps, InfP p) (hf : ∀ f ∈ fs, InfP f.2.2) : InfP (.mk k t n ps fs vs) := by
 intro K w b o h
 obtain ⟨A, c, A2, c2, A3, c3, ⟨x0, x1, x2, x3, x4, x5⟩, -, hP, hF, -⟩ := h.six
 rw [infT_mk]
 have hlp := hP.short
 have hlf := hF.shortF
 have PT := Lib.hid (pattern_any x0)
 have HP := Lib.hid fun i hi => inf_p hP hp (i := i) hi
 have HF := Lib.hid fun i hi => inf_f hF hf (i := i) hi
 clear h hP hF hp hf x1 x2 x5
 by_cases hk : k = 22
 ·have te : (k == 22) = true := by simpa using hk
  clear hk hlp hlf
  go_enter Tryz.func70, Tryz.ntmps70
  go_wp2_with fail
  go_ret
  exact ⟨by rw [te]; rfl, rfl⟩
 have te : (k == 22) = false := by simpa using hk
 have hte := Lib.hid te
 clear hk
 go_enter Tryz.func70, Tryz.ntmps70
 go_wp2_with fail
 go_loopw [15] (fun v wr => ∃ (i : Nat), i ≤ ps.length ∧ v = .int .i64 i ∧ infPs k 0 ps = infPs k i (ps.drop i) ∧ wr = w) (fun v _ => ps.length - (intOf v).toNat)
 case atStart => exact ⟨0, by omega, rfl, by rw [List.drop_zero], rfl⟩
 case round =>
  obtain ⟨i, hi, rfl, he, rfl⟩ := hrel
  have HE := Lib.hid he
  clear he
  by_cases hin : i < ps.length
  ·have t1 : decide ((i : Int) < (ps.length : Int)) = true := by simp; omega
   have wr2 : wrap64 ((i : Int) + 1) = ((i + 1 : Nat) : Int) := wrap_one (by omega)
   obtain ⟨pb, po, hA, hN⟩ := HP.out i hin
   have KN := Lib.hid hN
   have HS := Lib.hid (infPs_drop (k := k) hin)
   have PI := Lib.hid (PT.out i)
   have HIn := Lib.hid hin
   subst hA
   generalize hq : (k == 21 && i == 1) = q at PI HS
   generalize hr : infT ps[i] = r at KN HS
   clear hN hi hq hr
   go_wp2_with fail
   refine PI.out.mono ?_
   rintro e w2 ⟨rfl, rfl⟩
   cases q with
   | true =>
    go_wp2_with fail
    refine ⟨⟨i + 1, HIn.out, by first | rfl | rw [wr2], by rw [HE.out, HS.out]; rfl, by first | trivial | rfl⟩, ?_⟩
    first | exact measI HIn.out | exact measT HIn.out | (rw [wr2]; exact measI HIn.out)
   | false =>
    go_wp2_with fail
    refine KN.out.mono ?_
    rintro e w3 ⟨rfl, rfl⟩
    cases r with
    | true =>
     go_wp2_with fail
     go_ret
     exact ⟨by rw [HE.out, HS.out, hte.out]; rfl, rfl⟩
    | false =>
     go_wp2_with fail
     refine ⟨⟨i + 1, HIn.out, by first | rfl | rw [wr2], by rw [HE.out, HS.out]; rfl, by first | trivial | rfl⟩, ?_⟩
     first | exact measI HIn.out | exact measT HIn.out | (rw [wr2]; exact measI HIn.out)
  ·have t1 : decide ((i : Int) < (ps.length : Int)) = false := by simp; omega
   have HE1 : Hid (infPs k 0 ps = false) := Lib.hid (by rw [HE.out, List.drop_eq_nil_of_le (by omega)]; rfl)
   clear hi
   go_wp2_with fail
   go_loopw [37] (fun v wx => ∃ (i : Nat), i ≤ fs.length ∧ v = .int .i64 i ∧ infFs fs = infFs (fs.drop i) ∧ wx = wr) (fun v _ => fs.length - (intOf v).toNat)
   case atStart => exact ⟨0, by omega, rfl, by rw [List.drop_zero], rfl⟩
   case round =>
    obtain ⟨i, hi, rfl, he, rfl⟩ := hrel
    have HE := Lib.hid he
    clear he
    by_cases hin : i < fs.length
    ·have t1 : decide ((i : Int) < (fs.length : Int)) = true := by simp; omega
     have wr2 : wrap64 ((i : Int) + 1) = ((i + 1 : Nat) : Int) := wrap_one (by omega)
     obtain ⟨pb, po, hA, hN⟩ := HF.out i hin
     have KN := Lib.hid hN
     have HS := Lib.hid (infFs_drop hin)
     have HIn := Lib.hid hin
     subst hA
     generalize hr : infT fs[i].2.2 = r at KN HS
     clear hN hi hr
     go_wp2_with fail
     refine KN.out.mono ?_
     rintro e w3 ⟨rfl, rfl⟩
     cases r with
     | true =>
      go_wp2_with fail
      go_ret
      exact ⟨by rw [HE.out, HS.out, hte.out, HE1.out]; rfl, rfl⟩
     | false =>
      go_wp2_with fail
      refine ⟨⟨i + 1, HIn.out, by first | rfl | rw [wr2], by rw [HE.out, HS.out]; rfl, by first | trivial | rfl⟩, ?_⟩
      first | exact measI HIn.out | exact measT HIn.out | (rw [wr2]; exact measI HIn.out)
    ·have t1 : decide ((i : Int) < (fs.length : Int)) = false := by simp; omega
     have HE2 : Hid (infFs fs = false) := Lib.hid (by rw [HE.out, List.drop_eq_nil_of_le (by omega)]; rfl)
     clear hi
     go_wp2_with fail
     go_ret
     exact ⟨by rw [hte.out, HE1.out, HE2.out]; rfl, rfl⟩
theorem inf_any (t : Ty) : InfP t := Ty.ind (C := InfP) (fun k t n ps fs vs hp hf _ => inf_step k t n ps fs vs hp hf) t
def KB (w : World) (g : Nat) (h : Kinds) : Prop := w.heap[g]? = some (.cells #[.bool h.a, .bool h.u, .bool h.n, .bool h.s] 76 (0, 0))
def seeK (h : Kinds) (k : Int) : Kinds := ⟨h.a || k == 3, h.u || k == 2, h.n || k == 7, h.s || k == 8⟩
def SetAt (g : Nat) (w w' : World) : Prop := w' = w ∨ ∃ j v, w' = w.setCell ⟨g, j, none⟩ v
theorem SetAt.size {g : Nat} {w w' : World} (h : SetAt g w w') : w'.heap.size = w.heap.size := by
 rcases h with rfl | ⟨j, v, rfl⟩
 ·rfl
 ·simp [World.setCell]
theorem SetAt.block {g : Nat} {w w' : World} (h : SetAt g w w') {b : Nat} (hb : b ≠ g) : w'.heap[b]? = w.heap[b]? := by
 rcases h with rfl | ⟨j, v, rfl⟩
 ·rfl
 ·exact Below.heap_setCell _ _ _ _ hb
theorem SetAt.below {g B : Nat} {a w w' : World} (h : SetAt g w w') (hb : Below B a w) (hg : B ≤ g) : Below B a w' := by
 rcases h with rfl | ⟨j, v, rfl⟩
 ·exact hb
 ·exact hb.setCell hg _
theorem kb_cells {w : World} {g : Nat} {h : Kinds} (hk : KB w g h) : w.cell? ⟨g, 0, none⟩ = some (.bool h.a) ∧ w.cell? ⟨g, 1, none⟩ = some (.bool h.u) ∧ w.cell? ⟨g, 2, none⟩ = some (.bool h.n) ∧ w.cell? ⟨g, 3, none⟩ = some (.bool h.s) :=
 ⟨cell_of_row _ _ 0 _ _ _ hk, cell_of_row _ _ 1 _ _ _ hk, cell_of_row _ _ 2 _ _ _ hk, cell_of_row _ _ 3 _ _ _ hk⟩
theorem kb_set {w : World} {g : Nat} {h : Kinds} (hk : KB w g h) (j : Nat) (v : Value) : (w.setCell ⟨g, j, none⟩ v).heap[g]? = some (.cells (#[.bool h.a, .bool h.u, .bool h.n, .bool h.s].setIfInBounds j v) 76 (0, 0)) :=
 Go.heap_setCell_same w g j _ _ v hk
theorem kb_free {w : World} {g : Nat} {h : Kinds} (hk : KB w g h) (o : Nat) : w.frozen? ⟨g, o, none⟩ = false := Lib.frozen_of_heap hk o
theorem see_any {w : World} {g : Nat} {h : Kinds} {b o : Nat} {k : Int} (hk : KB w g h) (hc : w.cell? ⟨b, o, none⟩ = some (.int .i64 k)) :
  Calls Tryz.prog 69 #[.pointer (some ⟨g, 0, none⟩), .pointer (some ⟨b, o, none⟩)] w fun e w' => e = .returned (.tuple #[]) ∧ KB w' g (seeK h k) ∧ SetAt g w w' := by
 obtain ⟨c0, c1, c2, c3⟩ := kb_cells hk
 have f0 := kb_free hk 0
 have f1 := kb_free hk 1
 have f2 := kb_free hk 2
 have f3 := kb_free hk 3
 have HK := Lib.hid hk
 clear hk
 by_cases h3 : k = 3
 ·subst h3
  go_enter Tryz.func69, Tryz.ntmps69
  go_wp2_with fail
  exact bodyPost_end (v := .tuple #[]) (by simp [results, Tryz.results69, go_sem]) rfl ⟨rfl, by unfold KB; rw [kb_set HK.out]; simp [seeK], .inr ⟨_, _, rfl⟩⟩
 by_cases h2 : k = 2
 ·subst h2
  go_enter Tryz.func69, Tryz.ntmps69
  go_wp2_with fail
  exact bodyPost_end (v := .tuple #[]) (by simp [results, Tryz.results69, go_sem]) rfl ⟨rfl, by unfold KB; rw [kb_set HK.out]; simp [seeK], .inr ⟨_, _, rfl⟩⟩
 by_cases h7 : k = 7
 ·subst h7
  go_enter Tryz.func69, Tryz.ntmps69
  go_wp2_with fail
  exact bodyPost_end (v := .tuple #[]) (by simp [results, Tryz.results69, go_sem]) rfl ⟨rfl, by unfold KB; rw [kb_set HK.out]; simp [seeK], .inr ⟨_, _, rfl⟩⟩
 by_cases h8 : k = 8
 ·subst h8
  go_enter Tryz.func69, Tryz.ntmps69
  go_wp2_with fail
  exact bodyPost_end (v := .tuple #[]) (by simp [results, Tryz.results69, go_sem]) rfl ⟨rfl, by unfold KB; rw [kb_set HK.out]; simp [seeK], .inr ⟨_, _, rfl⟩⟩
 have t3 : (k == 3) = false := by simpa using h3
 have t2 : (k == 2) = false := by simpa using h2
 have t7 : (k == 7) = false := by simpa using h7
 have t8 : (k == 8) = false := by simpa using h8
 have hs : seeK h k = h := by unfold seeK; rw [t3, t2, t7, t8]; simp
 have HS := Lib.hid hs
 clear h2 h3 h7 h8 hs
 go_enter Tryz.func69, Tryz.ntmps69
 go_wp2_with fail
 exact bodyPost_end (v := .tuple #[]) (by simp [results, Tryz.results69, go_sem]) rfl ⟨rfl, by rw [HS.out]; exact HK.out, .inl rfl⟩
theorem keep_any {K : Nat → Prop} {w : World} {g : Nat} {h : Kinds} {t : Ty} {b o : Nat} (hk : KB w g h) (ht : AtT K w t b o) :
  Calls Tryz.prog 52 #[.pointer (some ⟨g, 0, none⟩), .pointer (some ⟨b, o, none⟩)] w fun e w' => e = .returned (.bool (keepT h t)) ∧ w' = w := by
 obtain ⟨c0, c1, c2, c3⟩ := kb_cells hk
 have KI := Lib.hid (inf_any t K w b o ht)
 obtain ⟨k, s, n, ps, fs, vs⟩ := t
 obtain ⟨A, c, A2, d2, A3, d3, ⟨x0, -, -, -, -, -⟩, -⟩ := ht.six
 generalize hi : infT (.mk k s n ps fs vs) = q at KI
 have hkp : keepT h (.mk k s n ps fs vs) = if k = 1 then false else if k = 3 then true else if k = 2 ∧ h.a = false then true else if h.a = true ∨ h.u = true then q else if k = 9 then !h.n else if k = 10 then !h.s else true := by unfold keepT; rw [hi]; rfl
 rw [hkp]
 obtain ⟨ha, hu, hn, hs⟩ := h
 simp only at c0 c1 c2 c3 ⊢
 clear hk ht hi hkp
 by_cases h1 : k = 1
 ·subst h1
  go_enter Tryz.func52, Tryz.ntmps52
  go_wp2_with fail
  go_ret
  exact ⟨rfl, rfl⟩
 have t1 : (k == 1) = false := by simpa using h1
 rw [if_neg h1]
 clear h1
 by_cases h3 : k = 3
 ·subst h3
  go_enter Tryz.func52, Tryz.ntmps52
  go_wp2_with fail
  go_ret
  exact ⟨rfl, rfl⟩
 have t3 : (k == 3) = false := by simpa using h3
 rw [if_neg h3]
 clear h3
 by_cases h2 : k = 2
 ·subst h2
  cases ha with
  | false =>
   go_enter Tryz.func52, Tryz.ntmps52
   go_wp2_with fail
   go_ret
   exact ⟨rfl, rfl⟩
  | true =>
   rw [if_neg (by decide), if_pos (.inl rfl)]
   go_enter Tryz.func52, Tryz.ntmps52
   go_wp2_with fail
   refine KI.out.mono ?_
   rintro e w2 ⟨rfl, rfl⟩
   go_wp2_with fail
   go_ret
   exact ⟨rfl, rfl⟩
 have t2 : (k == 2) = false := by simpa using h2
 rw [if_neg (fun h => h2 h.1)]
 clear h2
 cases ha with
 | true =>
  rw [if_pos (by simp)]
  go_enter Tryz.func52, Tryz.ntmps52
  go_wp2_with fail
  refine KI.out.mono ?_
  rintro e w2 ⟨rfl, rfl⟩
  go_wp2_with fail
  go_ret
  exact ⟨rfl, rfl⟩
 | false =>
 cases hu with
 | true =>
  rw [if_pos (by simp)]
  go_enter Tryz.func52, Tryz.ntmps52
  go_wp2_with fail
  refine KI.out.mono ?_
  rintro e w2 ⟨rfl, rfl⟩
  go_wp2_with fail
  go_ret
  exact ⟨rfl, rfl⟩
 | false =>
 rw [if_neg (by decide)]
 by_cases h9 : k = 9
 ·subst h9
  go_enter Tryz.func52, Tryz.ntmps52
  go_wp2_with fail
  go_ret
  exact ⟨rfl, rfl⟩
 have t9 : (k == 9) = false := by simpa using h9
 rw [if_neg h9]
 clear h9
 by_cases h10 : k = 10
 ·subst h10
  go_enter Tryz.func52, Tryz.ntmps52
  go_wp2_with fail
  go_ret
  exact ⟨rfl, rfl⟩
 have t10 : (k == 10) = false := by simpa using h10
 rw [if_neg h10]
 clear h10
 go_enter Tryz.func52, Tryz.ntmps52
 go_wp2_with fail
 go_ret
 exact ⟨rfl, rfl⟩
theorem wp_append_own_at {P : Program} {w : World} {o : Oper} {a : Act} {K : Act → World → Prop} {Q : Exit → Act → World → Prop} (s x : Operand) (t : TypeId)
  (ho : o.op = .call { callee := .builtin .append, args := #[s, x], argTypes := #[t, t] })
  (base : Nat) (e : TypeId) (i : TypeInfo) (z : Value) (size bytes : Nat) (ht : P.underlying t = some (.slice e)) (hi : P.info? e = some i) (hz : i.zero = some z)
  (hsize : i.size = size) (hby : i.bytes = bytes) (hzs : z.cells.size = size) (hsz : 0 < size)
  (v : Value) (n : Nat) (xs : List Value) (hs : a.eval s = v) (hown : w.ownsRow base e size v n xs)
  (ad : Addr) (m c : Nat) (news : List Value) (hx : a.eval x = .slice (some ad) m c) (hl : news.length = m * size) (hnews : ∀ j u, news[j]? = some u → w.cell? (ad.add j) = some u) (h1 : ∀ u ∈ news, u.oneCell' = true)
  (h63 : n + m ≤ maxLen) (hbytes : (n + m) * bytes ≤ 140737488355328) (hbase : base ≤ w.heap.size)
  (h : ∀ v' w', w'.ownsRow base e size v' (n + m) (xs ++ news) → w.grownBy w' v.ownBlock → (v' = .slice none 0 0 ↔ v = .slice none 0 0 ∧ m = 0) → (v'.ownBlock = v.ownBlock ∨ v'.ownBlock = some w.heap.size) → K (a.put o.dst v') w') :
  Oper.wp P o a w K Q := by
 obtain ⟨v', w', hr, h2, h3, h4, h5⟩ := run_append_own_at (P := P) w base t o.type e i z size bytes ht hi hz hsize hby hzs hsz v n xs hown ad m c news hl hnews h1 h63 hbytes hbase
 unfold Oper.wp execOp
 simp only [ho, resolve, invoke, builtin, Sem.run_bind, Sem.run_pure, Result.andThen_ok, List.map_toArray, List.map_cons, List.map_nil, hs, hx, hr]
 exact h v' w' h2 h3 h4 h5
theorem partsT {P : Program} {t : TypeId} {z : Option Value} {s b : Nat} (h : (P.info? t).map (fun i => (i.zero, i.size, i.bytes)) = some (z, s, b)) : ∃ i, P.info? t = some i ∧ i.zero = z ∧ i.size = s ∧ i.bytes = b := by
 cases hi : P.info? t with
 | none => rw [hi] at h; cases h
 | some i => rw [hi] at h; simp at h; exact ⟨i, rfl, h.1, h.2.1, h.2.2⟩
theorem infoTy : (Tryz.prog.info? 26).map (fun i => (i.zero, i.size, i.bytes)) = some (some (.agg #[.int .i64 0, .string ⟨#[]⟩, .int .i64 0, .slice none 0 0, .slice none 0 0, .slice none 0 0]), 6, 104) := by kernel_rfl
theorem sliceT {w : World} {base : Nat} {e : TypeId} {size n : Nat} {v : Value} {xs : List Value} (h : w.ownsRow base e size v n xs) : ∃ A c, v = .slice A n c ∧ (A = none → n = 0 ∧ c = 0) := by
 rcases h.2 with ⟨hv, hn⟩ | ⟨g, cap, cur, hv, _⟩
 ·exact ⟨none, 0, by rw [hv, hn], fun _ => ⟨hn, rfl⟩⟩
 ·exact ⟨_, cap, hv, fun h => by cases h⟩
theorem typeT {w : World} {base : Nat} {e : TypeId} {size n : Nat} {v : Value} {xs : List Value} (h : w.ownsRow base e size v n xs) {b : Nat} (hb : v.ownBlock = some b) : ∃ c, w.heap[b]? = some (.cells c e (0, 0)) := by
 rcases h.2 with ⟨rfl, _⟩ | ⟨g, cap, cur, rfl, _, hg, _⟩
 ·cases hb
 ·injection hb with hb
  exact ⟨cur, by rw [← hb]; exact hg⟩
theorem cellsT_new (w : World) (cs : List Value) (T : TypeId) : ∀ j u, cs[j]? = some u → (w.alloc (.cells cs.toArray T)).cell? ((⟨w.heap.size, 0, none⟩ : Addr).add j) = some u := by
 intro j u hj
 have e : ((⟨w.heap.size, 0, none⟩ : Addr).add j) = ⟨w.heap.size, j, none⟩ := by
  unfold Addr.add
  by_cases h2 : j = 0 <;> simp [h2]
 rw [e, Lib.cell_of_heap (heap_alloc_new w _)]
 simpa using hj
structure OutT (K : Nat → Prop) (w0 w : World) (v : Value) (ts : List Ty) : Prop where
 ex : ∃ vs, w.ownsRow w0.heap.size 26 6 v ts.length vs ∧ ∀ i (h : i < ts.length), ∃ cs, RepT K w0 ts[i] cs ∧ ∀ j u, cs[j]? = some u → vs[i * 6 + j]? = some u
theorem RepT.six {K : Nat → Prop} {w : World} {t : Ty} {cs : List Value} (h : RepT K w t cs) : cs.length = 6 := by
 obtain ⟨k, s, n, ps, fs, vs⟩ := t
 obtain ⟨A, c, A', c', A'', c'', rfl, _⟩ := h.inv
 rfl
theorem OutT.snoc {K : Nat → Prop} {w0 w' : World} {v' : Value} {ts : List Ty} {t : Ty} {vs cs : List Value} (hl : vs.length = ts.length * 6) (h : ∀ i (h : i < ts.length), ∃ cs, RepT K w0 ts[i] cs ∧ ∀ j u, cs[j]? = some u → vs[i * 6 + j]? = some u)
  (ht : RepT K w0 t cs) (ho : w'.ownsRow w0.heap.size 26 6 v' (ts.length + 1) (vs ++ cs)) : OutT K w0 w' v' (ts ++ [t]) := by
 refine ⟨⟨vs ++ cs, by rw [List.length_append]; exact ho, fun i hi => ?_⟩⟩
 rw [List.length_append, List.length_singleton] at hi
 by_cases hlt : i < ts.length
 ·obtain ⟨cs', h1, h2⟩ := h i hlt
  refine ⟨cs', by rw [List.getElem_append_left hlt]; exact h1, fun j u hj => ?_⟩
  have h3 := h2 j u hj
  rw [List.getElem?_append_left (List.getElem?_eq_some_iff.1 h3).1]
  exact h3
 ·obtain rfl : i = ts.length := by omega
  refine ⟨cs, by rw [List.getElem_append_right (by omega)]; simpa using ht, fun j u hj => ?_⟩
  rw [List.getElem?_append_right (by omega), show ts.length * 6 + j - vs.length = j from by omega]
  exact hj
theorem OutT.keep {K : Nat → Prop} {w0 w w' : World} {v : Value} {ts : List Ty} (h : OutT K w0 w v ts) (hk : ∀ b, v.ownBlock = some b → w'.heap[b]? = w.heap[b]?) : OutT K w0 w' v ts := by
 obtain ⟨vs, h1, h2⟩ := h
 refine ⟨vs, ⟨h1.1, ?_⟩, h2⟩
 rcases h1.2 with h3 | ⟨g, cap, cur, hv, hg, hh, r⟩
 ·exact .inl h3
 ·exact .inr ⟨g, cap, cur, hv, hg, by rw [hk g (by rw [hv]; rfl)]; exact hh, r⟩
def seeL (h : Kinds) (l : List Ty) : Kinds := l.foldl (fun h t => seeK h t.k) h
theorem seeL_app (h : Kinds) (l l' : List Ty) : seeL h (l ++ l') = seeL (seeL h l) l' := by unfold seeL; rw [List.foldl_append]
theorem flatU_take {l : List Ty} {i : Nat} (h : i < l.length) : flatU (l.take (i + 1)) = flatU (l.take i) ++ parts1 l[i] := by
 rw [List.take_succ_eq_append_getElem h, flatU_app]
 simp [flatU]
theorem flatU_split (l : List Ty) (i : Nat) : flatU l = flatU (l.take i) ++ flatU (l.drop i) := by
 rw [← flatU_app, List.take_append_drop]
theorem kb_out {K : Nat → Prop} {w0 w : World} {v : Value} {ts : List Ty} {g : Nat} {h : Kinds} (hk : KB w g h) (ho : OutT K w0 w v ts) : v.ownBlock ≠ some g := by
 intro e
 obtain ⟨vs, h1, _⟩ := ho
 obtain ⟨c, hc⟩ := typeT h1 e
 rw [hk] at hc
 injection hc with hc
 injection hc with _ hc
 exact absurd hc (by decide)
def FlatP (l : List Ty) : Prop := ∀ (K : Nat → Prop) (w0 w : World) (A : Option Addr) (c : Nat) (v : Value) (os : List Ty) (g : Nat) (h : Kinds), ListT K w0 l A c → Below w0.heap.size w0 w → w0.heap.size ≤ g → KB w g h → OutT K w0 w v os → os.length + (flatU l).length ≤ 1099511627776 →
 Calls Tryz.prog 51 #[v, .slice A l.length c, .pointer (some ⟨g, 0, none⟩)] w fun e w' => ∃ v', e = .returned v' ∧ OutT K w0 w' v' (os ++ flatU l) ∧ KB w' g (seeL h (flatU l)) ∧ Below w0.heap.size w0 w'
theorem out_push {K : Nat → Prop} {w0 w2 w5 : World} {v v5 : Value} {os : List Ty} {t : Ty} {g : Nat} {h : Kinds} {cs vs : List Value} (hK : KB w2 g h) (hb : Below w0.heap.size w0 w2) (ho : w2.ownsRow w0.heap.size 26 6 v os.length vs) (hr : ∀ i (h : i < os.length), ∃ cs, RepT K w0 os[i] cs ∧ ∀ j u, cs[j]? = some u → vs[i * 6 + j]? = some u)
  (ht : RepT K w0 t cs) (hown : w5.ownsRow w0.heap.size 26 6 v5 (os.length + 1) (vs ++ cs)) (hg : (w2.alloc (.cells cs.toArray 26)).grownBy w5 v.ownBlock) :
  OutT K w0 w5 v5 (os ++ [t]) ∧ KB w5 g h ∧ Below w0.heap.size w0 w5 := by
 have hgl : g < w2.heap.size := (Array.getElem?_eq_some_iff.1 hK).1
 have hne := kb_out hK ⟨vs, ho, hr⟩
 have hl1 : w2.heap.size ≤ (w2.alloc (.cells cs.toArray 26)).heap.size := by simp
 refine ⟨OutT.snoc (ho.1) hr ht hown, ?_, (hb.alloc hb.size _).grown hg (Nat.le_trans hb.size hl1) fun k hk => (ho.lt k hk).1⟩
 unfold KB
 rw [hg.block g (by omega) (fun e => hne e.symm), Below.heap_alloc _ _ _ hgl]
 exact hK
theorem flat_list (l : List Ty) (hp : ∀ p ∈ l, FlatP p.ps) : FlatP l := by
 intro K w0 w A c v os g h hL hb hg hK hO hbd
 have hll := hL.short
 have HL := Lib.hid hL
 have HP := Lib.hid hp
 have HG := Lib.hid hg
 have HBD := Lib.hid hbd
 have HS0 : Hid (OutT K w0 w v os ∧ KB w g h ∧ Below w0.heap.size w0 w) := Lib.hid ⟨hO, hK, hb⟩
 obtain ⟨i0, hi0, hz0, hz1, hz2⟩ := partsT infoTy
 obtain ⟨vs0, hvs0, -⟩ := hO
 obtain ⟨A0, c0, rfl, -⟩ := sliceT hvs0
 obtain ⟨n0, hn0⟩ : ∃ n0, n0 = os.length := ⟨_, rfl⟩
 rw [← hn0] at HS0 hvs0 ⊢
 have HN0 := Lib.hid hn0
 clear hL hp hg hbd hb hK hvs0 hn0
 go_enter Tryz.func51, Tryz.ntmps51
 go_wp2_with fail
 go_loopw [0, 10] (fun ov v wr => ∃ (i : Nat) (acc : List Ty), i ≤ l.length ∧ v = .int .i64 i ∧ acc = os ++ flatU (l.take i) ∧ OutT K w0 wr ov acc ∧ KB wr g (seeL h (flatU (l.take i))) ∧ Below w0.heap.size w0 wr) (fun _ v _ => l.length - (intOf v).toNat)
 case atStart => exact ⟨0, os, by omega, rfl, by simp [flatU], HS0.out.1, by simpa [flatU, seeL] using HS0.out.2.1, HS0.out.2.2⟩
 case round =>
  obtain ⟨i, acc, hi, rfl, hacc, ho, hk, hb⟩ := hrel
  have HAcc := Lib.hid hacc
  clear hacc
  have HR := Lib.hid (And.intro ho (And.intro hk hb))
  obtain ⟨vs, hvs, hrs⟩ := ho
  obtain ⟨A1, c1, rfl, -⟩ := sliceT hvs
  by_cases hin : i < l.length
  ·have t1 : decide ((i : Int) < (l.length : Int)) = true := by simp; omega
   have wr2 : wrap64 ((i : Int) + 1) = ((i + 1 : Nat) : Int) := wrap_one (by omega)
   obtain ⟨b, o, hA, _, hat⟩ := HL.out.at (by omega)
   have hti := hat i hin
   have hpi := HP.out _ (List.getElem_mem hin)
   have htk := flatU_take hin
   have hsp := flatU_split l (i + 1)
   subst hA
   generalize l[i] = t at hti hpi htk
   obtain ⟨k, s, n, ps, fs, ws⟩ := t
   obtain ⟨cs, hcs, hrep⟩ := hti
   obtain ⟨Ap, cp, Af, cf, Av, cv, rfl, -, hLp, -, -⟩ := hrep.inv
   have HREP := Lib.hid hrep
   have x0 : wr.cell? ⟨b, o + i * 6, none⟩ = some (.int .i64 k) := cell_stays hb (hcs 0 _ rfl)
   have x3 := cell_stays hb (hcs 3 _ rfl)
   have HCS := Lib.hid hcs
   have HIn := Lib.hid hin
   have HTk := Lib.hid htk
   have HOw := Lib.hid (And.intro hvs hrs)
   have HLen : Hid (acc.length + (parts1 (.mk k s n ps fs ws)).length ≤ 1099511627776) := Lib.hid (by
    have h1 := HBD.out
    rw [hsp, htk] at h1
    rw [HAcc.out]
    simp only [List.length_append] at h1 ⊢
    omega)
   have hbl : b < w0.heap.size := World.block_lt_of_cell? _ _ (hcs 0 _ rfl)
   have HBl := Lib.hid hbl
   by_cases h15 : k = 15
   ·subst h15
    have KF := Lib.hid (hpi K w0 wr Ap cp _ _ g _ hLp hb HG.out hk HR.out.1 (by have := HLen.out; rw [parts1_mk, if_pos rfl] at this; exact this))
    simp only [Ty.ps] at KF
    clear hpi htk hsp hcs hrep hLp hvs hrs hk hb hi hbl
    go_wp2_with fail
    refine KF.out.mono ?_
    rintro e w2 ⟨v2, rfl, ho2, hk2, hb2⟩
    have HR2 := Lib.hid (And.intro ho2 (And.intro hk2 hb2))
    clear ho2 hk2 hb2 KF
    go_wp2_with fail
    refine ⟨⟨i + 1, _, HIn.out, by first | rfl | rw [wr2], ?p1, HR2.out.1, ?p2, HR2.out.2.2⟩, ?p3⟩
    case p1 => rw [HTk.out, HAcc.out, parts1_mk, if_pos rfl, List.append_assoc]
    case p2 => rw [HTk.out, seeL_app, parts1_mk, if_pos rfl]; exact HR2.out.2.1
    case p3 => first | exact measI HIn.out | exact measT HIn.out | (rw [wr2]; exact measI HIn.out)
   ·have t15 : (k == 15) = false := by simpa using h15
    have KS := Lib.hid (see_any hk x0)
    clear hpi htk hsp hcs hrep hLp hvs hrs hi hbl hk
    go_wp2_with fail
    refine KS.out.mono ?_
    rintro e w2 ⟨rfl, hk2, hs2⟩
    have hb2 := hs2.below hb HG.out
    have HR2 := Lib.hid (And.intro hk2 hb2)
    have HOw2 : Hid (w2.ownsRow w0.heap.size 26 6 (.slice A1 acc.length c1) acc.length vs) := Lib.hid (by
     have hne := kb_out HR.out.2.1 HR.out.1
     refine ⟨HOw.out.1.1, ?_⟩
     rcases HOw.out.1.2 with h3 | ⟨g1, cap, cur, hv, hg1, hh, r⟩
     ·exact .inl h3
     ·exact .inr ⟨g1, cap, cur, hv, hg1, by rw [hs2.block (fun e => hne (by rw [hv, ← e]; rfl))]; exact hh, r⟩)
    have y0 : w2.cell? ⟨b, o + i * 6, none⟩ = some (.int .i64 k) := cell_stays hb2 (HCS.out 0 _ rfl)
    have y1 := cell_stays hb2 (HCS.out 1 _ rfl)
    have y2 := cell_stays hb2 (HCS.out 2 _ rfl)
    have y3 := cell_stays hb2 (HCS.out 3 _ rfl)
    have y4 := cell_stays hb2 (HCS.out 4 _ rfl)
    have y5 := cell_stays hb2 (HCS.out 5 _ rfl)
    have HC2 := Lib.hid (cellsT_new w2 [.int .i64 k, .string s, .int .i64 n, .slice Ap ps.length cp, .slice Af fs.length cf, .slice Av ws.length cv] 26)
    have HL1 : Hid (acc.length + 1 ≤ 1099511627776) := Lib.hid (by have := HLen.out; rw [parts1_mk, if_neg h15] at this; simpa using this)
    clear hb hk2 hs2 hb2 KS x0 x3
    go_wp2_with (at_builtin; refine wpList_plain rfl fun K hK => ?_; go_loud (refine wp_append_own_at _ _ 22 rfl w0.heap.size 26 i0 (.agg #[.int .i64 0, .string ⟨#[]⟩, .int .i64 0, .slice none 0 0, .slice none 0 0, .slice none 0 0]) 6 104 Tryz.underlying22 hi0 hz0 hz1 hz2 rfl (by decide) _ _ _ rfl (HOw2.out.alloc _) ⟨w2.heap.size, 0, none⟩ 1 1 [.int .i64 k, .string s, .int .i64 n, .slice Ap ps.length cp, .slice Af fs.length cf, .slice Av ws.length cv] rfl rfl ?a0 ?a1 ?a2 ?a3 ?a4 ?_))
    case a0 => exact HC2.out
    case a1 =>
     intro u hu
     simp only [List.mem_cons, List.not_mem_nil, or_false] at hu
     rcases hu with rfl | rfl | rfl | rfl | rfl | rfl <;> rfl
    case a2 => have := HL1.out; unfold maxLen; omega
    case a3 => have := HL1.out; omega
    case a4 => have := HR2.out.2.size; simp only [World.size_alloc]; omega
    intro v5 w5 hown5 hg5 _ _
    refine hK _ _ ?_
    clear hK K
    have hP5 := out_push HR2.out.1 HR2.out.2 HOw2.out HOw.out.2 HREP.out hown5 hg5
    have HR5 := Lib.hid hP5
    clear hown5 hg5 hP5 y0 y1 y2 y3 y4 y5
    go_wp2_with fail
    refine ⟨⟨i + 1, _, HIn.out, by first | rfl | rw [wr2], ?p1, HR5.out.1, ?p2, HR5.out.2.2⟩, ?p3⟩
    case p1 => rw [HTk.out, HAcc.out, parts1_mk, if_neg h15, List.append_assoc]
    case p2 => rw [HTk.out, seeL_app, parts1_mk, if_neg h15]; exact HR5.out.2.1
    case p3 => first | exact measI HIn.out | exact measT HIn.out | (rw [wr2]; exact measI HIn.out)
  ·have t1 : decide ((i : Int) < (l.length : Int)) = false := by simp; omega
   have HE : Hid (l.take i = l) := Lib.hid (List.take_of_length_le (by omega))
   clear hi hvs hrs hk hb
   go_wp2_with fail
   go_ret
   have h1 := HR.out
   have h2 := HAcc.out
   rw [HE.out] at h1 h2
   rw [← h2]
   exact ⟨.slice A1 acc.length c1, rfl, h1.1, h1.2.1, h1.2.2⟩
theorem flat_any (l : List Ty) : FlatP l := flat_list l fun p _ => Ty.ind (C := fun t => FlatP t.ps) (fun _ _ _ ps _ _ hp _ _ => flat_list ps hp) p
structure InT (K : Nat → Prop) (w0 w : World) (g c : Nat) (ts : List Ty) : Prop where
 le : ts.length ≤ c
 mx : c ≤ maxLen
 blk : ∃ cur, w.heap[g]? = some (.cells cur 26 (0, 0)) ∧ cur.size = c * 6
 reps : ∀ (i : Nat) (t : Ty), ts[i]? = some t → ∃ cs, RepT K w0 t cs ∧ ∀ (j : Nat) (u : Value), cs[j]? = some u → w.cell? ⟨g, i * 6 + j, none⟩ = some u
theorem InT.lt {K : Nat → Prop} {w0 w : World} {g c : Nat} {ts : List Ty} (h : InT K w0 w g c ts) : g < w.heap.size := by
 obtain ⟨cur, h1, _⟩ := h.blk
 exact (Array.getElem?_eq_some_iff.1 h1).1
theorem InT.there {K : Nat → Prop} {w0 w : World} {g c : Nat} {ts : List Ty} (h : InT K w0 w g c ts) {j : Nat} (hj : j < c * 6) : (w.cell? ⟨g, j, none⟩).isSome = true ∧ w.frozen? ⟨g, j, none⟩ = false := by
 obtain ⟨cur, h1, h2⟩ := h.blk
 refine ⟨?_, Lib.frozen_of_heap h1 j⟩
 rw [cell_of_row _ _ _ _ _ _ h1, Array.getElem?_eq_getElem (by omega)]
 rfl
theorem InT.keep {K : Nat → Prop} {w0 w w' : World} {g c : Nat} {ts : List Ty} (h : InT K w0 w g c ts) (hk : w'.heap[g]? = w.heap[g]?) : InT K w0 w' g c ts :=
 ⟨h.le, h.mx, by rw [hk]; exact h.blk, fun i t hi => by
  obtain ⟨cs, h1, h2⟩ := h.reps i t hi
  exact ⟨cs, h1, fun j u hj => (World.cell?_of_block (a := ⟨g, i * 6 + j, none⟩) hk).trans (h2 j u hj)⟩⟩
theorem InT.later {K : Nat → Prop} {w0 w w' : World} {g c : Nat} {ts : List Ty} (h : InT K w0 w g c ts) (hb : Below w.heap.size w w') : InT K w0 w' g c ts := h.keep (hb.block g h.lt)
theorem InT.of_out {K : Nat → Prop} {w0 w : World} {v : Value} {ts : List Ty} (h : OutT K w0 w v ts) : (v = .slice none 0 0 ∧ ts = []) ∨ ∃ g c, v = .slice (some ⟨g, 0, none⟩) ts.length c ∧ w0.heap.size ≤ g ∧ InT K w0 w g c ts := by
 obtain ⟨vs, ⟨h1, h2⟩, h3⟩ := h
 rcases h2 with ⟨hv, hn⟩ | ⟨g, cap, cur, hv, hg, hh, hc, hm, hs, ht⟩
 ·exact .inl ⟨hv, List.eq_nil_of_length_eq_zero hn⟩
 ·refine .inr ⟨g, cap, hv, hg, hc, hm, ⟨cur, hh, hs⟩, fun i t hi => ?_⟩
  obtain ⟨hlt, rfl⟩ := List.getElem?_eq_some_iff.1 hi
  obtain ⟨cs, h4, h5⟩ := h3 i hlt
  refine ⟨cs, h4, fun j u hj => ?_⟩
  have h6 := h5 j u hj
  rw [cell_of_row _ _ _ _ _ _ hh]
  rw [← ht, List.getElem?_take] at h6
  split at h6
  ·simpa using h6
  ·cases h6
theorem row_set (g : Nat) {T : TypeId} : ∀ (vs : List Value) (o : Nat) (w : World), (∃ cur n, w.heap[g]? = some (.cells cur T (0, 0)) ∧ cur.size = n) → ∀ n, (∃ cur, w.heap[g]? = some (.cells cur T (0, 0)) ∧ cur.size = n) → ∃ cur, (w.setCells g o vs).heap[g]? = some (.cells cur T (0, 0)) ∧ cur.size = n
 | [], _, _, _, _, h => h
 | v :: vs, o, w, hx, n, ⟨cur, h1, h2⟩ => by
  have h3 := Go.heap_setCell_same w g o _ _ v h1
  exact row_set g vs (o + 1) _ ⟨_, _, h3, rfl⟩ n ⟨_, h3, by rw [Array.size_setIfInBounds]; exact h2⟩
theorem InT.put {K : Nat → Prop} {w0 w : World} {g c : Nat} {F ts : List Ty} {t : Ty} {cs : List Value} (h : InT K w0 w g c (F ++ ts.drop F.length)) (hF : F.length < ts.length) (ht : RepT K w0 t cs) :
  InT K w0 (w.setCells g (F.length * 6) cs) g c ((F ++ [t]) ++ ts.drop (F ++ [t]).length) := by
 have h6 := ht.six
 have hle := h.le
 simp only [List.length_append, List.length_drop] at hle
 have hin : ∀ j, j < cs.length → (w.cell? ⟨g, F.length * 6 + j, none⟩).isSome = true := fun j hj => (h.there (by omega)).1
 obtain ⟨cur, hc1, hc2⟩ := h.blk
 refine ⟨by simp; omega, h.mx, row_set g cs _ w ⟨_, _, hc1, rfl⟩ _ ⟨_, hc1, hc2⟩, fun i x hi => ?_⟩
 have hout : i ≠ F.length → (F ++ ts.drop F.length)[i]? = some x → ∃ cs', RepT K w0 x cs' ∧ ∀ (j : Nat) (u : Value), cs'[j]? = some u → (w.setCells g (F.length * 6) cs).cell? ⟨g, i * 6 + j, none⟩ = some u := by
  intro hne hx
  obtain ⟨cs', h1, h2⟩ := h.reps i x hx
  refine ⟨cs', h1, fun j u hj => ?_⟩
  have hj6 := (List.getElem?_eq_some_iff.1 hj).1
  rw [h1.six] at hj6
  rw [World.cell?_setCells_out g cs _ w ⟨g, i * 6 + j, none⟩ (fun _ _ => by show i * 6 + j < _ ∨ _ ≤ i * 6 + j; omega)]
  exact h2 j u hj
 rw [List.length_append, List.length_singleton] at hi
 rcases Nat.lt_trichotomy i F.length with hlt | heq | hgt
 ·refine hout (by omega) ?_
  rw [List.append_assoc, List.getElem?_append_left hlt] at hi
  rw [List.getElem?_append_left hlt]
  exact hi
 ·subst heq
  rw [List.append_assoc, List.getElem?_append_right (Nat.le_refl _), Nat.sub_self] at hi
  injection hi with hi
  subst hi
  refine ⟨cs, ht, fun j u hj => ?_⟩
  have hj6 := (List.getElem?_eq_some_iff.1 hj)
  rw [World.cell?_setCells_in g cs _ w hin j hj6.1, hj6.2]
 ·refine hout (by omega) ?_
  rw [List.getElem?_append_right (by simp; omega), List.getElem?_drop] at hi
  rw [List.getElem?_append_right (by omega), List.getElem?_drop]
  rw [← hi]
  congr 1
  simp
  omega
def dedupT : List Ty → List Ty
 | [] => []
 | a :: l => match l with
  | [] => [a]
  | b :: _ => if ordT a b = 0 then dedupT l else a :: dedupT l
def Wk (l : List Ty) : Prop := l.Pairwise fun a b => ordT a b ≤ 0
theorem mem_dedup (x : Ty) : ∀ l, x ∈ dedupT l ↔ x ∈ l
 | [] => Iff.rfl
 | [a] => Iff.rfl
 | a :: b :: l => by
  rw [dedupT]
  have ih := mem_dedup x (b :: l)
  split
  ·rename_i h
   rw [ih, ordT_zero.1 h]
   simp
  ·rw [List.mem_cons, ih]
   simp only [List.mem_cons]
theorem asc_dedup : ∀ {l}, Wk l → Asc (dedupT l)
 | [], _ => List.Pairwise.nil
 | [a], _ => by simp [dedupT, Asc]
 | a :: b :: l, h => by
  obtain ⟨h1, h2⟩ := List.pairwise_cons.1 h
  have ih := asc_dedup h2
  rw [dedupT]
  split
  ·exact ih
  ·rename_i h3
   have hab : ordT a b = -1 := by
    have := h1 b (List.mem_cons_self ..)
    rcases ordT_bd a b with e | e | e
    ·exact e
    ·exact absurd e h3
    ·omega
   refine List.pairwise_cons.2 ⟨fun x hx => ?_, ih⟩
   rcases List.mem_cons.1 ((mem_dedup x (b :: l)).1 hx) with rfl | hx2
   ·exact hab
   ·have hbx := (List.pairwise_cons.1 h2).1 x hx2
    rcases ordT_bd b x with e | e | e
    ·exact ordT_trans hab e
    ·rw [← ordT_zero.1 e]; exact hab
    ·omega
theorem sort_dedup {l s : List Ty} (hs : Wk s) (hm : ∀ x, x ∈ s ↔ x ∈ l) : sortT l = dedupT s := sortT_of (asc_dedup hs) fun x => (mem_dedup x s).trans (hm x)
end Go.Proofs.YtfchnfnifpopnaaGreatDoor
