import Derived.Test.YtgjblmlibhppiaaGreatDoorMy11
namespace Go.Proofs.YtgjblmlibhppiaaGreatDoor
set_option maxRecDepth 100000
set_option maxHeartbeats 64000000
open Go.RowKit
def AscS (l : List ByteArray) : Prop := l.Pairwise fun a b => cmpB a b = -1
theorem cmpB_trans {a b c : ByteArray} (h1 : cmpB a b = -1) (h2 : cmpB b c = -1) : cmpB a c = -1 := cmpB_lt.2 (List.lt_trans (cmpB_lt.1 h1) (cmpB_lt.1 h2))
theorem putS {F : List ByteArray} {t : ByteArray} {k : Nat} (hA : AscS F) (hk : k ≤ F.length) (hgt : ∀ j (h : j < F.length), k ≤ j → cmpB F[j] t = 1) (hlt : ∀ j (h : j < F.length), j + 1 = k → cmpB F[j] t = -1) : AscS (F.take k ++ t :: F.drop k) := by
 have hlt2 : ∀ i (hi : i < F.length), i < k → cmpB F[i] t = -1 := fun i hi hik => by
  rcases Nat.lt_or_ge (i + 1) k with h | h
  ·have h1 := hlt (k - 1) (by omega) (by omega)
   have h2 := List.pairwise_iff_getElem.1 hA i (k - 1) hi (by omega) (by omega)
   exact cmpB_trans h2 h1
  ·exact hlt i hi (by omega)
 have hA2 := hA
 unfold AscS at hA2
 rw [← List.take_append_drop k F, List.pairwise_append] at hA2
 obtain ⟨h1, h2, h3⟩ := hA2
 refine List.pairwise_append.2 ⟨h1, List.pairwise_cons.2 ⟨fun b hb => ?_, h2⟩, fun a ha b hb => ?_⟩
 ·obtain ⟨j, hj, rfl⟩ := List.getElem_of_mem hb
  rw [List.getElem_drop]
  have := hgt (k + j) (by simp at hj; omega) (by omega)
  rw [cmpB_flip, this]
 ·rcases List.mem_cons.1 hb with rfl | hb
  ·obtain ⟨j, hj, rfl⟩ := List.getElem_of_mem ha
   rw [List.getElem_take]
   exact hlt2 _ (by simp at hj; omega) (by simp at hj; omega)
  ·exact h3 a ha b hb
theorem memS {F : List ByteArray} {t : ByteArray} {k : Nat} (x : ByteArray) : x ∈ F.take k ++ t :: F.drop k ↔ x = t ∨ x ∈ F := by
 rw [List.mem_append, List.mem_cons]
 constructor
 ·rintro (h | h | h)
  ·exact .inr (List.mem_of_mem_take h)
  ·exact .inl h
  ·exact .inr (List.mem_of_mem_drop h)
 ·rintro (h | h)
  ·exact .inr (.inl h)
  ·rw [← List.take_append_drop k F] at h
   rcases List.mem_append.1 h with h | h
   ·exact .inl h
   ·exact .inr (.inr h)
theorem infoStr : (Tryz.prog.info? 9).map (fun i => (i.zero, i.size, i.bytes)) = some (some (.string ⟨#[]⟩), 1, 16) := by kernel_rfl
theorem OutS.list {B : Nat} {w : World} {v : Value} {l : List ByteArray} (h : OutS B w v l) (hl : l.length ≤ 1000000000000000) : ∃ A c, v = .slice A l.length c ∧ ListS w l A := by
 rcases h.of with ⟨rfl, rfl⟩ | ⟨g, c, rfl, hg, hs⟩
 ·exact ⟨none, 0, rfl, ⟨0, 0, fun h => absurd h (by simp), by simp, fun i h => absurd h (by simp)⟩⟩
 ·exact ⟨_, _, rfl, hs.list hl⟩
structure Fr (v : Value) (w : World) (v' : Value) (w' : World) : Prop where
 keep : ∀ b, b < w.heap.size → v.ownBlock ≠ some b → w'.heap[b]? = w.heap[b]?
 own : v'.ownBlock = v.ownBlock ∨ ∃ b, v'.ownBlock = some b ∧ w.heap.size ≤ b
theorem Fr.refl (v : Value) (w : World) : Fr v w v w := ⟨fun _ _ _ => rfl, .inl rfl⟩
theorem Fr.trans {v v1 v2 : Value} {w w1 w2 : World} (h : Fr v w v1 w1) (h' : Fr v1 w1 v2 w2) (hs : w.heap.size ≤ w1.heap.size) : Fr v w v2 w2 := by
 refine ⟨fun b hb hn => ?_, ?_⟩
 ·refine (h'.keep b (by omega) ?_).trans (h.keep b hb hn)
  rcases h.own with e | ⟨c, e, hc⟩
  ·rw [e]; exact hn
  ·rw [e]; intro e2; injection e2 with e2; omega
 ·rcases h'.own with e | ⟨c, e, hc⟩
  ·rw [e]; exact h.own
  ·exact .inr ⟨c, e, by omega⟩
theorem Fr.world {v v' : Value} {w w0 w' : World} (h : Fr v w v' w') (hb : Below w0.heap.size w0 w) : Fr v w0 v' w' :=
 ⟨fun b hb2 hn => (h.keep b (Nat.lt_of_lt_of_le hb2 hb.size) hn).trans (hb.block b hb2), h.own.imp id fun ⟨b, e, hc⟩ => ⟨b, e, Nat.le_trans hb.size hc⟩⟩
def AddPost (v : Value) (B : Nat) (w : World) (l : List ByteArray) (s : ByteArray) : Ending → World → Prop := fun e w' => ∃ v' l', e = .returned v' ∧ OutS B w' v' l' ∧ AscS l' ∧ (∀ x, x ∈ l' ↔ x = s ∨ x ∈ l) ∧ l'.length ≤ l.length + 1 ∧ Below B w w' ∧ Fr v w v' w'
theorem inB_mem {l : List ByteArray} {s : ByteArray} : inB l s = true ↔ s ∈ l := by
 unfold inB
 rw [List.any_eq_true]
 constructor
 ·rintro ⟨x, hx, h⟩
  have := of_decide_eq_true h
  rw [← this]; exact hx
 ·exact fun h => ⟨s, h, decide_eq_true rfl⟩
theorem add_ref {B : Nat} {w : World} {v : Value} {l : List ByteArray} {s : ByteArray} (hO : OutS B w v l) (hA : AscS l) (hB : B ≤ w.heap.size) (hbd : l.length + 1 ≤ 1099511627776) :
  Calls Tryz.prog 97 #[v, .string s] w (AddPost v B w l s) := by
 obtain ⟨A, c, rfl, hL⟩ := hO.list (by omega)
 have KI := Hd (in_ref (c := c) hL s)
 have HO := Hd hO
 have HBD := Hd hbd
 have HA := Hd hA
 have HB := Hd hB
 have hll : l.length ≤ 1099511627776 := by omega
 obtain ⟨i0, hi0, hz0, hz1, hz2⟩ := partsT infoStr
 unfold AddPost
 clear hL hO hA hB hbd
 cases hin : inB l s with
 | true =>
  have HM := Hd (inB_mem.1 hin)
  rw [hin] at KI
  go_enter Tryz.func97, Tryz.ntmps97
  go_wp2_with fail
  refine KI.out.mono ?_
  rintro e w2 ⟨rfl, rfl⟩
  go_wp2_with fail
  go_ret
  exact ⟨_, l, rfl, HO.out, HA.out, fun x => ⟨.inr, fun h => h.elim (fun e => e ▸ HM.out) id⟩, by omega, Below.refl _ _, Fr.refl _ _⟩
 | false =>
  have HN : Hid (¬ s ∈ l) := Hd (fun h => by rw [inB_mem.2 h] at hin; cases hin)
  rw [hin] at KI
  clear hin
  have HOWA : Hid ((w.alloc (.cells #[.string s] 9)).ownsRow B 9 1 (.slice A l.length c) l.length (l.map .string)) := Hd (HO.out.later ((Below.refl _ _).alloc (Nat.le_refl _) _))
  have HC2 := Hd (cellsT_new w [.string s] 9)
  have HLA : Hid ((l ++ [s]).length = l.length + 1) := Hd (by simp)
  go_enter Tryz.func97, Tryz.ntmps97
  go_wp2_with fail
  refine KI.out.mono ?_
  rintro e w2 ⟨rfl, rfl⟩
  go_wp2_with (at_builtin; refine wpList_plain rfl fun K hK => ?_; go_loud (refine wp_append_own_at _ _ 38 rfl B 9 i0 (.string ⟨#[]⟩) 1 16 Tryz.underlying38 hi0 hz0 hz1 hz2 rfl (by decide) _ _ _ rfl HOWA.out ⟨w2.heap.size, 0, none⟩ 1 1 [.string s] rfl rfl ?a0 ?a1 ?a2 ?a3 ?a4 ?_))
  case a0 => exact HC2.out
  case a1 =>
   intro u hu
   simp only [List.mem_cons, List.not_mem_nil, or_false] at hu
   rw [hu]; rfl
  case a2 => have := HBD.out; unfold maxLen; omega
  case a3 => have := HBD.out; omega
  case a4 => have := HB.out; simp only [World.size_alloc]; omega
  intro v5 w5 hown5 hg5 _ hwhere
  refine hK _ _ ?_
  clear hK K
  have ho5 : OutS B w5 v5 (l ++ [s]) := by
   unfold OutS
   rw [HLA.out, List.map_append]
   exact hown5
  have hb5 : Below B w2 w5 := ((Below.refl B w2).alloc HB.out _).grown hg5 (by have := HB.out; simp only [World.size_alloc]; omega) fun k hk => (HOWA.out.lt k hk).1
  rcases ho5.of with ⟨-, hnil⟩ | ⟨g5, c5, rfl, hgg5, hin5⟩
  ·exact absurd hnil (by simp)
  have HIN5 := Hd hin5
  have HGG := Hd hgg5
  have HB5 := Hd hb5
  have hg5n : ∀ b, b < w2.heap.size → (Value.slice A l.length c).ownBlock ≠ some b → b ≠ g5 := fun b hb hn e => by
   rcases hwhere with h | h
   ·exact hn (by rw [← h, e]; rfl)
   ·have h2 : g5 = w2.heap.size + 1 := by first | exact Option.some.inj h | (have h3 := Option.some.inj h; simpa using h3)
    omega
  have HGN := Hd hg5n
  have HOWN : Hid ((Value.slice (some ⟨g5, 0, none⟩) (l.length + 1) c5).ownBlock = (Value.slice A l.length c).ownBlock ∨ ∃ b, (Value.slice (some ⟨g5, 0, none⟩) (l.length + 1) c5).ownBlock = some b ∧ w2.heap.size ≤ b) := Hd (by
   rcases hwhere with h | h
   ·exact .inl h
   ·have h2 : g5 = w2.heap.size + 1 := by first | exact Option.some.inj h | (have h3 := Option.some.inj h; simpa using h3)
    exact .inr ⟨g5, rfl, by omega⟩)
  have HKP : Hid (∀ b, b < w2.heap.size → (Value.slice A l.length c).ownBlock ≠ some b → w5.heap[b]? = w2.heap[b]?) := Hd fun b hb hn => (hg5.block b (by simp only [World.size_alloc]; omega) hn.symm).trans (Below.heap_alloc _ _ _ hb)
  rw [HLA.out]
  have wr9 : wrap64 (((l.length + 1 : Nat) : Int) - 1) = ((l.length : Nat) : Int) := by rw [wrap_in (by omega) (by omega)]; omega
  clear hown5 hg5 ho5 hb5 hin5 hgg5 hwhere hg5n
  go_wp2_with fail
  go_loopw [5] (fun v wr => ∃ (k : Nat) (x : ByteArray), k ≤ l.length ∧ v = .int .i64 k ∧ StrI wr g5 c5 (l.take k ++ x :: l.drop k) ∧ (∀ j (h : j < l.length), k ≤ j → cmpB l[j] s = 1) ∧ Below B w2 wr ∧ (∀ b, b < w2.heap.size → (Value.slice A l.length c).ownBlock ≠ some b → wr.heap[b]? = w2.heap[b]?)) (fun v _ => (intOf v).toNat)
  case atStart => exact ⟨l.length, s, Nat.le_refl _, by first | rfl | rw [wr9], by rw [List.take_length, List.drop_length]; exact HIN5.out, fun j h hj => absurd h (by omega), HB5.out, HKP.out⟩
  case round =>
   obtain ⟨k, x, hkl, rfl, hrow, hgt, hbr, hkp⟩ := hrel
   have HKR : Hid (∀ j y, ∀ b, b < w2.heap.size → (Value.slice A l.length c).ownBlock ≠ some b → (wr.setCell ⟨g5, j, none⟩ y).heap[b]? = w2.heap[b]?) := Hd fun j y b hb hn => (Below.heap_setCell _ _ _ _ (HGN.out b hb hn)).trans (hkp b hb hn)
   clear hkp
   have HGT := Hd hgt
   have HBR := Hd hbr
   have hltk : (l.take k).length = k := by simp; omega
   have hset := hrow.set (s := s)
   rw [hltk] at hset
   have hcx := hrow.reps k x (by rw [List.getElem?_append_right (by omega), hltk, Nat.sub_self]; rfl)
   obtain ⟨cur, hcur, -⟩ := hrow.blk
   have hfr : ∀ o, wr.frozen? ⟨g5, o, none⟩ = false := fun o => Lib.frozen_of_heap hcur o
   have HFIN : Hid ((∀ j (h : j < l.length), j + 1 = k → cmpB l[j] s = -1) → ∃ v' l', Ending.returned (.slice (some ⟨g5, 0, none⟩) (l.length + 1) c5) = .returned v' ∧ OutS B (wr.setCell ⟨g5, k, none⟩ (.string s)) v' l' ∧ AscS l' ∧ (∀ x, x ∈ l' ↔ x = s ∨ x ∈ l) ∧ l'.length ≤ l.length + 1 ∧ Below B w2 (wr.setCell ⟨g5, k, none⟩ (.string s)) ∧ Fr (.slice A l.length c) w2 v' (wr.setCell ⟨g5, k, none⟩ (.string s))) := Hd fun hlt => by
    have hl : (l.take k ++ s :: l.drop k).length = l.length + 1 := by simp; omega
    have h1 := hset.out HGG.out
    rw [hl] at h1
    exact ⟨_, _, rfl, h1, putS HA.out hkl HGT.out hlt, memS, by omega, hbr.setCell HGG.out _, HKR.out _ _, HOWN.out⟩
   have i2 : (k : Int) < (l.length : Int) + 1 := by omega
   have i3 : (0 : Int) ≤ (k : Int) := by omega
   by_cases hk0 : k = 0
   ·subst hk0
    have HF2 := Hd (HFIN.out fun j _ hj => absurd hj (by omega))
    clear hkl hrow hgt hbr hltk hset hcur HFIN
    go_wp2_with fail
    go_ret
    exact HF2.out
   ·obtain ⟨j, rfl⟩ : ∃ j, k = j + 1 := ⟨k - 1, by omega⟩
    have hjl : j < l.length := by omega
    have hcj := hrow.reps j l[j] (by rw [List.getElem?_append_left (by omega), List.getElem?_take, if_pos (by omega)]; exact List.getElem?_eq_getElem hjl)
    have hset2 := hrow.set (s := l[j])
    rw [hltk] at hset2
    have HSET : Hid (StrI (wr.setCell ⟨g5, j + 1, none⟩ (.string l[j])) g5 c5 (l.take j ++ l[j] :: l.drop j)) := Hd (by
     have e1 : l.take (j + 1) = l.take j ++ [l[j]] := List.take_succ_eq_append_getElem hjl
     rw [e1, List.append_assoc] at hset2
     rw [List.drop_eq_getElem_cons hjl]
     exact hset2)
    have HNE : Hid (l[j] ≠ s) := Hd fun e => HN.out (e ▸ List.getElem_mem hjl)
    have HGJ : Hid (cmpB l[j] s = 1 → ∀ a (h : a < l.length), j ≤ a → cmpB l[a] s = 1) := Hd fun e a h ha => by
     rcases Nat.lt_or_ge j a with h1 | h1
     ·exact HGT.out a h (by omega)
     ·have : a = j := by omega
      subst this
      exact e
    have HLJ : Hid (cmpB l[j] s = -1 → ∀ a (h : a < l.length), a + 1 = j + 1 → cmpB l[a] s = -1) := Hd fun e a h ha => by
     have : a = j := by omega
     subst this
     exact e
    have HBS := Hd (fun y => hbr.setCell (p := ⟨g5, j + 1, none⟩) HGG.out y)
    have HJL : Hid (j ≤ l.length) := Hd (by omega)
    have hcs := cmpB_cases l[j] s
    generalize l[j] = y at hcj HSET HNE HGJ HLJ hcs
    have wr1 : wrap64 (((j + 1 : Nat) : Int) - 1) = ((j : Nat) : Int) := by rw [wrap_in (by omega) (by omega)]; omega
    have wr3 : wrap64 (j : Int) = (j : Int) := wrap_in (by omega) (by omega)
    have i4 : (0 : Int) ≤ (j : Int) := by omega
    have i5 : (j : Int) < (l.length : Int) + 1 := by omega
    have i6 : (j : Int) + 1 < (l.length : Int) + 1 := by omega
    clear hkl hrow hgt hbr hltk hset hset2 hcur hk0 hjl
    rcases hcs with ⟨ga, gb, ge⟩ | ⟨ga, gb, ge⟩ | ⟨ga, gb, ge⟩
    ·have HF2 := Hd (HFIN.out (HLJ.out ge))
     clear HFIN ge
     go_wp2_with fail
     go_ret
     exact HF2.out
    ·have HG2 := Hd (HGJ.out ge)
     clear HFIN ge
     go_wp2_with fail
     refine ⟨⟨j, y, HJL.out, by first | rfl | (rw [wr1]) | (rw [wr3]), HSET.out, HG2.out, HBS.out _, HKR.out _ _⟩, ?_⟩
     first | (simp only [intOf]; omega) | (rw [wr1]; simp only [intOf]; omega) | (rw [wr3]; simp only [intOf]; omega)
    ·exact absurd (cmpB_zero ge) HNE.out
theorem ButG.low {O : Nat → Prop} {a b c : World} (h : ButG O a b) (h' : Below a.heap.size b c) : ButG O a c :=
 ⟨h'.os.trans h.os, h'.tape.trans h.tape, h'.output.trans h.output, Nat.le_trans h.size h'.size, fun k hk hn => (h'.block k hk).trans (h.block k hk hn)⟩
def HeadPost (b : Nat) (fuel st : Int) (m1 m2 : Option Nat) (asked : Value) (rows : Int) (w0 : World) (cs : List Value) : Ending → World → Prop := fun e w' =>
 (e = .returned (.agg cs.toArray) ∧ st < fuel ∧ w'.heap[b]? = some (runC fuel (st + 1) m1 m2 asked rows) ∧ ButG (fun x => x = b) w0 w') ∨ (e = .panicked [{ v := stopV, recovered := false }] ∧ st = fuel ∧ ButG (fun x => x = b) w0 w')
theorem head_any {K : Nat → Prop} {w : World} {t : Ty} {cs : List Value} {b : Nat} {fuel st rows : Int} {m1 m2 : Option Nat} {asked : Value} (hr : RepT K w t cs) (hk : t.k < 16 ∨ 22 < t.k) (hb : w.heap[b]? = some (runC fuel st m1 m2 asked rows)) (h0 : 0 ≤ st) (h1 : st ≤ fuel) (h2 : fuel ≤ 100000) :
  Calls Tryz.prog 87 #[.pointer (some ⟨b, 0, none⟩), .agg cs.toArray] w (HeadPost b fuel st m1 m2 asked rows w cs) := by
 have hbl : b < w.heap.size := (Array.getElem?_eq_some_iff.1 hb).1
 obtain ⟨w1, g1, g2, HW1, HG1, HG2, hb1, hs1, hx, hy⟩ := box_two w cs [.int .i64 0, .string ⟨#[]⟩, .int .i64 0, .slice none 0 0, .slice none 0 0, .slice none 0 0]
 obtain ⟨k, s, n, ps, fs, vs⟩ := t
 obtain ⟨A, c, B, d, C, e, rfl, -⟩ := hr.inv
 replace hk : k < 16 ∨ 22 < k := hk
 simp only [cells6T] at hr hx hy HW1 ⊢
 have hbr := box_up hb1 hbl hb
 have HBE : Hid ((st = fuel ∧ Calls Tryz.prog 58 #[.pointer (some ⟨b, 0, none⟩)] w1 fun e w' => e = .panicked [{ v := stopV, recovered := false }] ∧ Below w1.heap.size w1 w') ∨ (st < fuel ∧ Calls Tryz.prog 58 #[.pointer (some ⟨b, 0, none⟩)] w1 fun e w' => e = .returned (.tuple #[]) ∧ w'.heap[b]? = some (runC fuel (st + 1) m1 m2 asked rows) ∧ ButG (fun x => x = b) w1 w')) := Hd (by
  rcases Int.lt_or_eq_of_le h1 with h | h
  ·exact .inr ⟨h, begin_ok hbr h0 h h2⟩
  ·subst h
   exact .inl ⟨rfl, begin_stop hbr⟩)
 have h17 : (k == 17) = false := by rw [beq_eq_false_iff_ne]; omega
 have h18 : (k == 18) = false := by rw [beq_eq_false_iff_ne]; omega
 have h19 : (k == 19) = false := by rw [beq_eq_false_iff_ne]; omega
 have h20 : (k == 20) = false := by rw [beq_eq_false_iff_ne]; omega
 have h21 : (k == 21) = false := by rw [beq_eq_false_iff_ne]; omega
 have HNE : Hid (g1 ≠ b ∧ g2 ≠ b ∧ w.heap.size ≤ g2 ∧ g1 < w1.heap.size ∧ g2 < w1.heap.size ∧ w.heap.size ≤ w1.heap.size ∧ b < w.heap.size) := Hd (by omega)
 have HB1 := Hd hb1
 have HX := Hd hx
 have HY := Hd hy
 replace HW1 := Hd HW1
 replace HG1 := Hd HG1
 replace HG2 := Hd HG2
 unfold HeadPost
 obtain ⟨PO, hPO⟩ : ∃ PO : Ending → World → Prop, PO = fun e5 w' => (e5 = .returned (.agg [.int .i64 k, .string s, .int .i64 n, .slice A ps.length c, .slice B fs.length d, .slice C vs.length e].toArray) ∧ st < fuel ∧ w'.heap[b]? = some (runC fuel (st + 1) m1 m2 asked rows) ∧ ButG (fun x => x = b) w w') ∨ (e5 = .panicked [{ v := stopV, recovered := false }] ∧ st = fuel ∧ ButG (fun x => x = b) w w') := ⟨_, rfl⟩
 have HPO := Hd hPO
 rw [← hPO]
 clear hr hk hb h0 h1 h2 hb1 hs1 hx hy hbr hPO hbl
 go_enter Tryz.func87, Tryz.ntmps87
 go_upto_region 1 with fail
 rw [HW1.out, HG1.out, HG2.out]
 go_loopw [6] (fun v wr => wr = w1) (fun _ _ => 0)
 case atStart => rfl
 case round =>
  obtain rfl := hrel
  rcases HBE.out with ⟨hst, kb⟩ | ⟨hst, kb⟩
  ·have KB := Hd kb
   have HST := Hd hst
   clear kb hst
   go_wp2_with fail
   refine KB.out.mono ?_
   rintro e5 w2 ⟨rfl, hb2⟩
   have HFIN : Hid (PO (.panicked [{ v := stopV, recovered := false }]) w2) := Hd (by
    rw [HPO.out]
    exact .inr ⟨rfl, HST.out, ButG.of_below (HB1.out.trans (hb2.mono HB1.out.size))⟩)
   clear hb2
   go_wp2_with fail
   first | exact HFIN.out | (simp only [bodyPost]; exact ⟨trivial, HFIN.out⟩)
  ·have KB := Hd kb
   have HST := Hd hst
   clear kb hst
   go_wp2_with fail
   refine KB.out.mono ?_
   rintro e5 w2 ⟨rfl, hb2, hu⟩
   have HB2 := Hd hb2
   have HU := Hd hu
   have hne := HNE.out
   have HX2 : Hid (w2.heap[g1]? = some (.cells #[.int .i64 k, .string s, .int .i64 n, .slice A ps.length c, .slice B fs.length d, .slice C vs.length e] 26 (0, 0))) := Hd ((hu.block g1 hne.2.2.2.1 hne.1).trans HX.out)
   have HY2 : Hid (w2.heap[g2]? = some (.cells #[.int .i64 0, .string ⟨#[]⟩, .int .i64 0, .slice none 0 0, .slice none 0 0, .slice none 0 0] 26 (0, 0))) := Hd ((hu.block g2 hne.2.2.2.2.1 hne.2.1).trans HY.out)
   have HS2 : Hid (w.heap.size ≤ w2.heap.size ∧ g1 < w2.heap.size ∧ g2 < w2.heap.size ∧ w.heap.size ≤ g2 ∧ b < w.heap.size) := Hd (by have := hu.size; omega)
   obtain ⟨x0, x1, x2, x3, x4, x5⟩ := cz6 HX2.out
   obtain ⟨w3, hw3⟩ : ∃ x, x = w2.alloc (.cells #[.int .i64 k, .string s, .int .i64 n, .slice A ps.length c, .slice B fs.length d, .slice C vs.length e] 26) := ⟨_, rfl⟩
   obtain ⟨g3, hg3⟩ : ∃ x, x = w2.heap.size := ⟨_, rfl⟩
   have HW3 := Hd hw3
   have HG3 := Hd hg3
   clear hb2 hu hne hw3 hg3
   go_upto_region 3 with fail
   rw [← HW3.out, ← HG3.out]
   have HB3 : Hid (Below w2.heap.size w2 w3) := Hd (by rw [HW3.out]; exact (Below.refl _ _).alloc (Nat.le_refl _) _)
   have hx3 : w3.heap[g3]? = some (.cells #[.int .i64 k, .string s, .int .i64 n, .slice A ps.length c, .slice B fs.length d, .slice C vs.length e] 26 (0, 0)) := by rw [HW3.out, HG3.out]; exact heap_alloc_new w2 _
   obtain ⟨y0, y1, y2, y3, y4, y5⟩ := cz6 (box_up HB3.out HS2.out.2.1 HX2.out)
   obtain ⟨u0, u1, u2, u3, u4, u5⟩ := cz6 hx3
   have hy3 := box_up HB3.out HS2.out.2.2.1 HY2.out
   obtain ⟨_, _, _, _, _, _, z0, z1, z2, z3, z4, z5⟩ := qz6 hy3
   have HY3 := Hd hy3
   have HRB : Hid (w3.heap[b]? = some (runC fuel (st + 1) m1 m2 asked rows)) := Hd (box_up HB3.out (Nat.lt_of_lt_of_le HS2.out.2.2.2.2 HS2.out.1) HB2.out)
   have HBW : Hid (ButG (fun x => x = b) w w3) := Hd ((((ButG.of_below HB1.out).same HU.out)).low (HB3.out.mono HS2.out.1))
   obtain ⟨w4, hw4⟩ : ∃ x, x = ((((((w3.setCell ⟨g2, 0, none⟩ (.int .i64 k)).setCell ⟨g2, 1, none⟩ (.string s)).setCell ⟨g2, 2, none⟩ (.int .i64 n)).setCell ⟨g2, 3, none⟩ (.slice A ps.length c)).setCell ⟨g2, 4, none⟩ (.slice B fs.length d)).setCell ⟨g2, 5, none⟩ (.slice C vs.length e)) := ⟨_, rfl⟩
   have hy4 : w4.heap[g2]? = some (.cells #[.int .i64 k, .string s, .int .i64 n, .slice A ps.length c, .slice B fs.length d, .slice C vs.length e] 26 (0, 0)) := by rw [hw4]; exact six_set HY3.out _ _ _ _ _ _
   have HB4 : Hid (Below w.heap.size w3 w4) := Hd (by rw [hw4]; exact set_six_below (Below.refl _ _) HS2.out.2.2.2.1 _ _ _ _ _ _)
   have HFIN : Hid (PO (.returned (.agg [.int .i64 k, .string s, .int .i64 n, .slice A ps.length c, .slice B fs.length d, .slice C vs.length e].toArray)) w4) := Hd (by
    rw [HPO.out]
    exact .inl ⟨rfl, HST.out, (HB4.out.block b HS2.out.2.2.2.2).trans HRB.out, HBW.out.low HB4.out⟩)
   have HW4 := Hd hw4
   have HY4 := Hd hy4
   clear hx3 hy3 hw4 hy4 x0 x1 x2 x3 x4 x5
   go_wp2_with fail
   rw [← HW4.out]
   obtain ⟨v0, v1, v2, v3, v4, v5⟩ := cz6 HY4.out
   refine bodyPost_ret (v := .agg #[.int .i64 k, .string s, .int .i64 n, .slice A ps.length c, .slice B fs.length d, .slice C vs.length e]) (by simp [results, Tryz.results87, go_sem, v0, v1, v2, v3, v4, v5]) rfl ?_
   exact HFIN.out
theorem formed_val {K : Nat → Prop} {w : World} {t : Ty} {cs : List Value} {r : Bool} (h : RepT K w t cs) (hf : FormIs t r) :
  Calls Tryz.prog 24 #[.agg cs.toArray] w fun e w' => e = .returned (.bool (decide (cntT t ≤ 4096) && r)) ∧ Below w.heap.size w w' := by
 have hb1 : Below w.heap.size w (w.alloc (.cells cs.toArray 26)) := (Below.refl _ _).alloc (Nat.le_refl _) _
 have KN := Hd (nodes_any (h.later hb1))
 have KF := Hd fun wx hx => hf K wx w.heap.size 0 ((AtT.box 26 h).later hx)
 have HB1 := Hd hb1
 have HC : Hid (decide (((capN (cntT t) : Nat) : Int) ≤ 4096) = decide (cntT t ≤ 4096)) := Hd (by unfold capN; congr 1; rw [eq_iff_iff]; omega)
 obtain ⟨k, s, n, ps, fs, vs⟩ := t
 obtain ⟨A, c, A', c', A'', c'', rfl, _⟩ := h.inv
 generalize capN (cntT (.mk k s n ps fs vs)) = q at KN HC
 generalize decide (cntT (.mk k s n ps fs vs) ≤ 4096) = d at HC ⊢
 simp only [cells6T] at KN KF HB1 ⊢
 clear h hf hb1
 cases d with
 | false =>
  have hq : ¬ ((q : Int) ≤ 4096) := by have h := HC.out; simpa using h
  have hq2 : ¬ (q ≤ 4096) := by omega
  go_enter Tryz.func24, Tryz.ntmps24
  go_wp2_with fail
  refine KN.out.mono ?_
  rintro e w1 ⟨rfl, hb1⟩
  have HB2 := Hd (below_then HB1.out hb1)
  clear hb1 KN
  go_wp2_with fail
  go_ret
  exact ⟨rfl, HB2.out⟩
 | true =>
  have hq : ((q : Int) ≤ 4096) := by have h := HC.out; simpa using h
  have hq2 : (q ≤ 4096) := by omega
  go_enter Tryz.func24, Tryz.ntmps24
  go_wp2_with fail
  refine KN.out.mono ?_
  rintro e w1 ⟨rfl, hb1⟩
  have HB2 := Hd (below_then HB1.out hb1)
  have KF2 := Hd (KF.out _ hb1)
  clear hb1 KN KF
  go_wp2_with fail
  refine KF2.out.mono ?_
  rintro e w2 ⟨rfl, hb2⟩
  have HB3 := Hd (below_then HB2.out hb2)
  clear hb2
  go_wp2_with fail
  go_ret
  exact ⟨rfl, HB3.out⟩
theorem self_15 (t : ByteArray) (n : Int) (ps : List Ty) (fs : FsT) (vs : VsT) : SelfIs (.mk 15 t n ps fs vs) (isUB ps) := by
 intro K w b o h
 obtain ⟨A, c, _, _, _, _, ⟨x0, -, -, x3, -, -⟩, -, hP, -⟩ := h.six
 have KU := Hd (isU_any hP)
 clear h hP
 generalize isUB ps = r at KU ⊢
 go_enter Tryz.func83, Tryz.ntmps83
 go_wp2_with fail
 refine KU.out.mono ?_
 rintro e w2 ⟨rfl, hb2⟩
 have HB2 := Hd hb2
 clear hb2
 go_wp2_with fail
 go_ret
 exact ⟨rfl, HB2.out⟩
theorem formedFields_any {K : Nat → Prop} {w : World} {fs : FsT} {A : Option Addr} {c : Nat} {fv : Ty → Bool} (hF : ListF K w fs A c) (hf : ∀ f ∈ fs, FormIs f.2.2 (fv f.2.2)) :
  Calls Tryz.prog 117 #[.slice A fs.length c] w fun e w' => e = .returned (.bool (fieldsB (fieldsT fs fv))) ∧ Below w.heap.size w w' := by
 have HF := Hd hF
 have HI := Hd hf
 have hlf := hF.shortF
 clear hF hf
 go_enter Tryz.func117, Tryz.ntmps117
 go_wp2_with fail
 go_loopw [7] (fun v wr => ∃ i : Nat, i ≤ fs.length ∧ v = .int .i64 (i : Int) ∧ (∀ j, j < i → okF (fieldsT fs fv) j = true) ∧ Below w.heap.size w wr) (fun v _ => fs.length - (intOf v).toNat)
 case atStart => exact ⟨0, by omega, rfl, fun j hj => absurd hj (by omega), Below.refl _ _⟩
 case round =>
  obtain ⟨i, hle, rfl, hok, hbr⟩ := hrel
  have HOK := Hd hok
  have HBr := Hd hbr
  clear hok
  by_cases hlt : i < fs.length
  ·have t1 : decide ((i : Int) < (fs.length : Int)) = true := by simp; omega
   have wr2 : wrap64 ((i : Int) + 1) = ((i + 1 : Nat) : Int) := wrap_one (by omega)
   have HM := Hd (measI hlt)
   have HLE : Hid (i + 1 ≤ fs.length) := Hd hlt
   obtain ⟨b, o, hA, _, hat⟩ := HF.out.at (by omega)
   subst hA
   obtain ⟨hc0, hc1, hsz, hAt⟩ := hat i hlt
   have hNO : okF (fieldsT fs fv) i = false → fieldsB (fieldsT fs fv) = false := fun h => allB_no (by rw [fieldsT_len]; exact hlt) h
   have hFm := HI.out _ (List.getElem_mem hlt)
   have KF := Hd fun wx (hx : Below w.heap.size w wx) => hFm K wx b (o + i * 8 + 2) (hAt.later hx)
   have hokE : (i = 0 ∧ okF (fieldsT fs fv) i = (nameT fs[i].1 && decide (0 ≤ fs[i].2.1) && decide (fs[i].2.1 ≤ 3) && fv fs[i].2.2)) ∨ (∃ j pn, i = j + 1 ∧ w.cell? ⟨b, o + j * 8, none⟩ = some (.string pn) ∧ okF (fieldsT fs fv) i = (nameT fs[i].1 && decide (0 ≤ fs[i].2.1) && decide (fs[i].2.1 ≤ 3) && fv fs[i].2.2 && Go.Op.bytesLess pn.toList fs[i].1.toList)) := by
    match i, hlt with
    | 0, h => exact .inl ⟨rfl, okF_zero h⟩
    | j + 1, h => exact .inr ⟨j, _, rfl, (hat j (by omega)).1, okF_succ h⟩
   generalize hnm : fs[i].1 = nm at hc0 hsz hokE
   generalize hfl : fs[i].2.1 = fl at hc1 hokE
   generalize hty : fv fs[i].2.2 = r at KF hokE
   have hokN : (nameT nm && decide (0 ≤ fl) && decide (fl ≤ 3)) = false → okF (fieldsT fs fv) i = false := fun h => by
    rcases hokE with ⟨_, e⟩ | ⟨_, _, _, _, e⟩ <;> rw [e, h] <;> rfl
   have hcw0 := cell_stays (w := w) (w' := wr) hbr hc0
   have hcw1 := cell_stays (w := w) (w' := wr) hbr hc1
   have KN := Hd fun wx => name_prog nm wx hsz
   have HCC : Hid (∀ wx, Below wr.heap.size wr wx → wx.cell? ⟨b, o + i * 8, none⟩ = some (.string nm) ∧ wx.cell? ⟨b, o + i * 8 + 1, none⟩ = some (.int .i64 fl)) := Hd fun wx hx => ⟨cell_stays hx hcw0, cell_stays hx hcw1⟩
   clear hat hc0 hc1 hnm hfl hty hFm hAt hcw0 hcw1 hle
   cases hq : nameT nm with
   | false =>
    have HNO : Hid (fieldsB (fieldsT fs fv) = false) := Hd (hNO (hokN (by rw [hq]; rfl)))
    rw [hq] at KN
    clear hNO hokN hokE hq hbr KF
    go_wp2_with fail
    refine wp_region_held_drew (S := (fun w' => w'.cell? ⟨b, o + i * 8, none⟩ = some (.string nm) ∧ w'.cell? ⟨b, o + i * 8 + 1, none⟩ = some (.int .i64 fl))) (by kernel_rfl) (HCC.out _ (Below.refl _ _).drew) (fun hHeld => ?_)
    refine Plan.start [0, 1, 2, 3] ?_
    iterate 4 (refine Plan.tk (so rfl) hHeld ?_; try simp only [Act.put, pz1, pz2, pz3])
    refine Plan.done ?_
    refine wpAnyH_ready (rs := [4]) (by kernel_rfl) (by simp) ?_
    refine AllReadyH.cons (sd (some 17) rfl) (fun K hK => ?_) AllReadyH.nil
    go_simp
    refine (KN.out _).mono ?_
    rintro e w2 ⟨rfl, hb2⟩
    have HB2 := Hd ((Below.refl wr.heap.size wr).drew.trans hb2)
    clear hb2
    go_wp2_with fail
    refine hK.out _ _ (HCC.out _ HB2.out) (fun hHeld => ?_)
    clear hK K
    try simp only [Act.put, pz1, pz2, pz3]
    refine Plan.start [5, 6] ?_
    iterate 2 (refine Plan.tk (so rfl) hHeld ?_; try simp only [Act.put, pz1, pz2, pz3])
    refine Plan.done ?_
    refine Plan.start [7, 8, 9, 10, 11] ?_
    iterate 5 (refine Plan.take (v := undef) (so rfl) (by kernel_rfl) (by kernel_rfl) (by kernel_rfl) (fun _ _ _ h => h) (Or.inr ⟨by rfl, rfl⟩) hHeld ?_; try simp only [Act.put, pz1, pz2, pz3])
    refine Plan.done ?_
    refine Plan.start [12, 13] ?_
    iterate 2 (refine Plan.tk (so rfl) hHeld ?_; try simp only [Act.put, pz1, pz2, pz3])
    refine Plan.done ?_
    refine Plan.start [14, 15, 16, 17, 18] ?_
    iterate 5 (refine Plan.take (v := undef) (so rfl) (by kernel_rfl) (by kernel_rfl) (by kernel_rfl) (fun _ _ _ h => h) (Or.inr ⟨by rfl, rfl⟩) hHeld ?_; try simp only [Act.put, pz1, pz2, pz3])
    refine Plan.done ?_
    refine Plan.start [19, 20] ?_
    iterate 2 (refine Plan.tk (so rfl) hHeld ?_; try simp only [Act.put, pz1, pz2, pz3])
    refine Plan.done ?_
    refine Plan.start [21, 22, 23, 24, 25, 26, 27, 28, 29, 30, 31, 32, 33, 34, 35] ?_
    iterate 15 (refine Plan.take (v := undef) (so rfl) (by kernel_rfl) (by kernel_rfl) (by kernel_rfl) (fun _ _ _ h => h) (Or.inr ⟨by rfl, rfl⟩) hHeld ?_; try simp only [Act.put, pz1, pz2, pz3])
    refine Plan.done ?_
    refine Plan.start [36, 37] ?_
    iterate 2 (refine Plan.tk (so rfl) hHeld ?_; try simp only [Act.put, pz1, pz2, pz3])
    refine Plan.done ?_
    refine Plan.start [38, 39, 40, 41, 42] ?_
    iterate 5 (refine Plan.take (v := undef) (so rfl) (by kernel_rfl) (by kernel_rfl) (by kernel_rfl) (fun _ _ _ h => h) (Or.inr ⟨by rfl, rfl⟩) hHeld ?_; try simp only [Act.put, pz1, pz2, pz3])
    refine Plan.done ?_
    refine Plan.start [43] ?_
    refine Plan.tk (so rfl) hHeld ?_
    try simp only [Act.put, pz1, pz2, pz3]
    refine Plan.done ?_
    refine wpAnyH_done (by kernel_rfl) ?_ _
    clear hHeld
    go_wp2_with fail
    go_ret
    exact ⟨by rw [HNO.out]; rfl, HBr.out.trans (HB2.out.mono HBr.out.size)⟩
   | true =>
    rw [hq] at KN
    by_cases hfl0 : 0 ≤ fl
    ·by_cases hfl3 : fl ≤ 3
     ·have f0 : decide (fl < 0) = false := by simp; omega
      have f3 : decide ((3 : Int) < fl) = false := by simp; omega
      rcases hokE with ⟨rfl, he⟩ | ⟨i, pn, rfl, hpn, he⟩
      ·have HE : Hid (okF (fieldsT fs fv) 0 = r) := Hd (by rw [he, hq]; simp [hfl0, hfl3])
       simp only [Nat.zero_mul, Nat.add_zero] at HCC KF
       clear hNO hokN he hq hbr
       go_wp2_with fail
       refine wp_region_held_drew (S := (fun w' => w'.cell? ⟨b, o, none⟩ = some (.string nm) ∧ w'.cell? ⟨b, o + 1, none⟩ = some (.int .i64 fl))) (by kernel_rfl) (HCC.out _ (Below.refl _ _).drew) (fun hHeld => ?_)
       refine Plan.start [0, 1, 2, 3] ?_
       iterate 4 (refine Plan.tk (so rfl) hHeld ?_; try simp only [Act.put, pz1, pz2, pz3])
       refine Plan.done ?_
       refine wpAnyH_ready (rs := [4]) (by kernel_rfl) (by simp) ?_
       refine AllReadyH.cons (sd (some 17) rfl) (fun K hK => ?_) AllReadyH.nil
       go_simp
       refine (KN.out _).mono ?_
       rintro e w2 ⟨rfl, hb2⟩
       have HB2 := Hd ((Below.refl wr.heap.size wr).drew.trans hb2)
       clear hb2
       go_wp2_with fail
       refine hK.out _ _ (HCC.out _ HB2.out) (fun hHeld => ?_)
       clear hK K
       try simp only [Act.put, pz1, pz2, pz3]
       refine Plan.start [5, 6, 7, 8, 9, 10, 11, 12, 13, 14, 15, 16, 17, 18, 19, 20, 21, 22, 23] ?_
       iterate 19 (refine Plan.tk (so rfl) hHeld ?_; try simp only [Act.put, pz1, pz2, pz3])
       refine Plan.done ?_
       refine Plan.start [24, 25, 26, 27, 28, 29, 30, 31, 32, 33, 34] ?_
       iterate 11 (refine Plan.take (v := undef) (so rfl) (by kernel_rfl) (by kernel_rfl) (by kernel_rfl) (fun _ _ _ h => h) (Or.inr ⟨by rfl, rfl⟩) hHeld ?_; try simp only [Act.put, pz1, pz2, pz3])
       refine Plan.done ?_
       refine Plan.start [35, 36, 37, 38, 39, 40] ?_
       iterate 6 (refine Plan.tk (so rfl) hHeld ?_; try simp only [Act.put, pz1, pz2, pz3])
       refine Plan.done ?_
       refine wpAnyH_ready (rs := [41]) (by kernel_rfl) (by simp) ?_
       refine AllReadyH.cons (sd (some 54) rfl) (fun K hK => ?_) AllReadyH.nil
       go_simp
       refine (KF.out _ (HBr.out.trans (HB2.out.mono HBr.out.size))).mono ?_
       rintro e w3 ⟨rfl, hb3⟩
       have HB3 := Hd (HB2.out.trans (hb3.mono HB2.out.size))
       clear hb3
       go_wp2_with fail
       refine hK.out _ _ (HCC.out _ HB3.out) (fun hHeld => ?_)
       clear hK K
       try simp only [Act.put, pz1, pz2, pz3]
       refine Plan.start [42, 43] ?_
       iterate 2 (refine Plan.tk (so rfl) hHeld ?_; try simp only [Act.put, pz1, pz2, pz3])
       refine Plan.done ?_
       refine wpAnyH_done (by kernel_rfl) ?_ _
       clear hHeld
       cases r with
       | false =>
        have HNO : Hid (fieldsB (fieldsT fs fv) = false) := Hd (allB_no (by rw [fieldsT_len]; exact HLE.out) HE.out)
        go_wp2_with fail
        go_ret
        exact ⟨by rw [HNO.out]; rfl, HBr.out.trans (HB3.out.mono HBr.out.size)⟩
       | true =>
        go_wp2_with fail
        refine ⟨⟨0 + 1, HLE.out, by first | rfl | rw [wr2], okU_more HOK.out HE.out, HBr.out.trans (HB3.out.mono HBr.out.size)⟩, ?_⟩
        first | exact HM.out | (rw [wr2]; exact HM.out)
      ·have hpw := cell_stays (w := w) (w' := wr) hbr hpn
       have HCD : Hid (∀ wx, Below wr.heap.size wr wx → wx.cell? ⟨b, o + i * 8, none⟩ = some (.string pn)) := Hd fun wx hx => cell_stays hx hpw
       have wr1 : wrap64 (((i + 1 : Nat) : Int) - 1) = ((i : Nat) : Int) := by rw [wrap_in (by omega) (by omega)]; omega
       have wr1' : IntKind.i64.wrap (((i + 1 : Nat) : Int) - 1) = ((i : Nat) : Int) := by
        have e : IntKind.i64.wrap (((i + 1 : Nat) : Int) - 1) = wrap64 (((i + 1 : Nat) : Int) - 1) := by unfold wrap64; exact IntKind.wrap_i64 _
        rw [e, wr1]
       have wr3 : wrap64 (i : Int) = (i : Int) := wrap_in (by omega) (by omega)
       have wr3' : IntKind.i64.wrap (i : Int) = (i : Int) := by
        have e : IntKind.i64.wrap (i : Int) = wrap64 (i : Int) := by unfold wrap64; exact IntKind.wrap_i64 _
        rw [e, wr3]
       have i2 : (0 : Int) ≤ (i : Int) := by omega
       have i3 : (i : Int) < (fs.length : Int) := by omega
       have i4 : (0 : Int) < (i : Int) + 1 := by omega
       cases hbl : Go.Op.bytesLess pn.toList nm.toList with
       | true =>
        have HE : Hid (okF (fieldsT fs fv) (i + 1) = r) := Hd (by rw [he, hq, hbl]; simp [hfl0, hfl3])
        clear hNO hokN he hq hbr hpn hpw
        go_wp2_with fail
        refine wp_region_held_drew (S := (fun w' => (w'.cell? ⟨b, o + (i + 1) * 8, none⟩ = some (.string nm) ∧ w'.cell? ⟨b, o + (i + 1) * 8 + 1, none⟩ = some (.int .i64 fl)) ∧ w'.cell? ⟨b, o + i * 8, none⟩ = some (.string pn))) (by kernel_rfl) (⟨HCC.out _ (Below.refl _ _).drew, HCD.out _ (Below.refl _ _).drew⟩) (fun hHeld => ?_)
        refine Plan.start [0, 1, 2, 3] ?_
        iterate 4 (refine Plan.tk (so rfl) hHeld ?_; try simp only [Act.put, pz1, pz2, pz3])
        refine Plan.done ?_
        refine wpAnyH_ready (rs := [4]) (by kernel_rfl) (by simp) ?_
        refine AllReadyH.cons (sd (some 17) rfl) (fun K hK => ?_) AllReadyH.nil
        go_simp
        refine (KN.out _).mono ?_
        rintro e w2 ⟨rfl, hb2⟩
        have HB2 := Hd ((Below.refl wr.heap.size wr).drew.trans hb2)
        clear hb2
        go_wp2_with fail
        refine hK.out _ _ (⟨HCC.out _ HB2.out, HCD.out _ HB2.out⟩) (fun hHeld => ?_)
        clear hK K
        try simp only [Act.put, pz1, pz2, pz3]
        refine Plan.start [5, 6, 7, 8, 9, 10, 11, 12, 13, 14, 15, 16, 17, 18, 19, 20, 21, 22, 23, 24, 25, 26, 27, 28, 29, 30, 31, 32, 33, 34, 35, 36, 37, 38, 39, 40] ?_
        iterate 36 (refine Plan.tk (so rfl) hHeld ?_; try simp only [Act.put, pz1, pz2, pz3])
        refine Plan.done ?_
        refine wpAnyH_ready (rs := [41]) (by kernel_rfl) (by simp) ?_
        refine AllReadyH.cons (sd (some 54) rfl) (fun K hK => ?_) AllReadyH.nil
        go_simp
        refine (KF.out _ (HBr.out.trans (HB2.out.mono HBr.out.size))).mono ?_
        rintro e w3 ⟨rfl, hb3⟩
        have HB3 := Hd (HB2.out.trans (hb3.mono HB2.out.size))
        clear hb3
        go_wp2_with fail
        refine hK.out _ _ (⟨HCC.out _ HB3.out, HCD.out _ HB3.out⟩) (fun hHeld => ?_)
        clear hK K
        try simp only [Act.put, pz1, pz2, pz3]
        refine Plan.start [42, 43] ?_
        iterate 2 (refine Plan.tk (so rfl) hHeld ?_; try simp only [Act.put, pz1, pz2, pz3])
        refine Plan.done ?_
        refine wpAnyH_done (by kernel_rfl) ?_ _
        clear hHeld
        cases r with
        | false =>
         have HNO : Hid (fieldsB (fieldsT fs fv) = false) := Hd (allB_no (by rw [fieldsT_len]; exact HLE.out) HE.out)
         go_wp2_with fail
         go_ret
         exact ⟨by rw [HNO.out]; rfl, HBr.out.trans (HB3.out.mono HBr.out.size)⟩
        | true =>
         go_wp2_with fail
         refine ⟨⟨(i + 1) + 1, HLE.out, by first | rfl | rw [wr2], okU_more HOK.out HE.out, HBr.out.trans (HB3.out.mono HBr.out.size)⟩, ?_⟩
         first | exact HM.out | (rw [wr2]; exact HM.out)
       | false =>
        have HNO : Hid (fieldsB (fieldsT fs fv) = false) := Hd (hNO (by rw [he, hbl]; simp))
        clear hNO hokN he hq hbr hpn hpw KF
        go_wp2_with fail
        refine wp_region_held_drew (S := (fun w' => (w'.cell? ⟨b, o + (i + 1) * 8, none⟩ = some (.string nm) ∧ w'.cell? ⟨b, o + (i + 1) * 8 + 1, none⟩ = some (.int .i64 fl)) ∧ w'.cell? ⟨b, o + i * 8, none⟩ = some (.string pn))) (by kernel_rfl) (⟨HCC.out _ (Below.refl _ _).drew, HCD.out _ (Below.refl _ _).drew⟩) (fun hHeld => ?_)
        refine Plan.start [0, 1, 2, 3] ?_
        iterate 4 (refine Plan.tk (so rfl) hHeld ?_; try simp only [Act.put, pz1, pz2, pz3])
        refine Plan.done ?_
        refine wpAnyH_ready (rs := [4]) (by kernel_rfl) (by simp) ?_
        refine AllReadyH.cons (sd (some 17) rfl) (fun K hK => ?_) AllReadyH.nil
        go_simp
        refine (KN.out _).mono ?_
        rintro e w2 ⟨rfl, hb2⟩
        have HB2 := Hd ((Below.refl wr.heap.size wr).drew.trans hb2)
        clear hb2
        go_wp2_with fail
        refine hK.out _ _ (⟨HCC.out _ HB2.out, HCD.out _ HB2.out⟩) (fun hHeld => ?_)
        clear hK K
        try simp only [Act.put, pz1, pz2, pz3]
        refine Plan.start [5, 6, 7, 8, 9, 10, 11, 12, 13, 14, 15, 16, 17, 18, 19, 20, 21, 22, 23, 24, 25, 26, 27, 28, 29, 30, 31, 32, 33, 34, 35, 36, 37] ?_
        iterate 33 (refine Plan.tk (so rfl) hHeld ?_; try simp only [Act.put, pz1, pz2, pz3])
        refine Plan.done ?_
        refine Plan.start [38, 39, 40, 41, 42] ?_
        iterate 5 (refine Plan.take (v := undef) (so rfl) (by kernel_rfl) (by kernel_rfl) (by kernel_rfl) (fun _ _ _ h => h) (Or.inr ⟨by rfl, rfl⟩) hHeld ?_; try simp only [Act.put, pz1, pz2, pz3])
        refine Plan.done ?_
        refine Plan.start [43] ?_
        refine Plan.tk (so rfl) hHeld ?_
        try simp only [Act.put, pz1, pz2, pz3]
        refine Plan.done ?_
        refine wpAnyH_done (by kernel_rfl) ?_ _
        clear hHeld
        go_wp2_with fail
        go_ret
        exact ⟨by rw [HNO.out]; rfl, HBr.out.trans (HB2.out.mono HBr.out.size)⟩
     ·have HNO : Hid (fieldsB (fieldsT fs fv) = false) := Hd (hNO (hokN (by simp [hfl3])))
      have f0 : decide (fl < 0) = false := by simp; omega
      have f3 : decide ((3 : Int) < fl) = true := by simp; omega
      clear hNO hokN hokE hq hbr KF
      go_wp2_with fail
      refine wp_region_held_drew (S := (fun w' => w'.cell? ⟨b, o + i * 8, none⟩ = some (.string nm) ∧ w'.cell? ⟨b, o + i * 8 + 1, none⟩ = some (.int .i64 fl))) (by kernel_rfl) (HCC.out _ (Below.refl _ _).drew) (fun hHeld => ?_)
      refine Plan.start [0, 1, 2, 3] ?_
      iterate 4 (refine Plan.tk (so rfl) hHeld ?_; try simp only [Act.put, pz1, pz2, pz3])
      refine Plan.done ?_
      refine wpAnyH_ready (rs := [4]) (by kernel_rfl) (by simp) ?_
      refine AllReadyH.cons (sd (some 17) rfl) (fun K hK => ?_) AllReadyH.nil
      go_simp
      refine (KN.out _).mono ?_
      rintro e w2 ⟨rfl, hb2⟩
      have HB2 := Hd ((Below.refl wr.heap.size wr).drew.trans hb2)
      clear hb2
      go_wp2_with fail
      refine hK.out _ _ (HCC.out _ HB2.out) (fun hHeld => ?_)
      clear hK K
      try simp only [Act.put, pz1, pz2, pz3]
      refine Plan.start [5, 6, 7, 8, 9, 10, 11, 12, 13, 14, 15, 16, 17, 18, 19, 20] ?_
      iterate 16 (refine Plan.tk (so rfl) hHeld ?_; try simp only [Act.put, pz1, pz2, pz3])
      refine Plan.done ?_
      refine Plan.start [21, 22, 23, 24, 25, 26, 27, 28, 29, 30, 31, 32, 33, 34, 35] ?_
      iterate 15 (refine Plan.take (v := undef) (so rfl) (by kernel_rfl) (by kernel_rfl) (by kernel_rfl) (fun _ _ _ h => h) (Or.inr ⟨by rfl, rfl⟩) hHeld ?_; try simp only [Act.put, pz1, pz2, pz3])
      refine Plan.done ?_
      refine Plan.start [36, 37] ?_
      iterate 2 (refine Plan.tk (so rfl) hHeld ?_; try simp only [Act.put, pz1, pz2, pz3])
      refine Plan.done ?_
      refine Plan.start [38, 39, 40, 41, 42] ?_
      iterate 5 (refine Plan.take (v := undef) (so rfl) (by kernel_rfl) (by kernel_rfl) (by kernel_rfl) (fun _ _ _ h => h) (Or.inr ⟨by rfl, rfl⟩) hHeld ?_; try simp only [Act.put, pz1, pz2, pz3])
      refine Plan.done ?_
      refine Plan.start [43] ?_
      refine Plan.tk (so rfl) hHeld ?_
      try simp only [Act.put, pz1, pz2, pz3]
      refine Plan.done ?_
      refine wpAnyH_done (by kernel_rfl) ?_ _
      clear hHeld
      go_wp2_with fail
      go_ret
      exact ⟨by rw [HNO.out]; rfl, HBr.out.trans (HB2.out.mono HBr.out.size)⟩
    ·have HNO : Hid (fieldsB (fieldsT fs fv) = false) := Hd (hNO (hokN (by simp [hfl0])))
     have f0 : decide (fl < 0) = true := by simp; omega
     clear hNO hokN hokE hq hbr KF
     go_wp2_with fail
     refine wp_region_held_drew (S := (fun w' => w'.cell? ⟨b, o + i * 8, none⟩ = some (.string nm) ∧ w'.cell? ⟨b, o + i * 8 + 1, none⟩ = some (.int .i64 fl))) (by kernel_rfl) (HCC.out _ (Below.refl _ _).drew) (fun hHeld => ?_)
     refine Plan.start [0, 1, 2, 3] ?_
     iterate 4 (refine Plan.tk (so rfl) hHeld ?_; try simp only [Act.put, pz1, pz2, pz3])
     refine Plan.done ?_
     refine wpAnyH_ready (rs := [4]) (by kernel_rfl) (by simp) ?_
     refine AllReadyH.cons (sd (some 17) rfl) (fun K hK => ?_) AllReadyH.nil
     go_simp
     refine (KN.out _).mono ?_
     rintro e w2 ⟨rfl, hb2⟩
     have HB2 := Hd ((Below.refl wr.heap.size wr).drew.trans hb2)
     clear hb2
     go_wp2_with fail
     refine hK.out _ _ (HCC.out _ HB2.out) (fun hHeld => ?_)
     clear hK K
     try simp only [Act.put, pz1, pz2, pz3]
     refine Plan.start [5, 6, 7, 8, 9, 10, 11, 12, 13] ?_
     iterate 9 (refine Plan.tk (so rfl) hHeld ?_; try simp only [Act.put, pz1, pz2, pz3])
     refine Plan.done ?_
     refine Plan.start [14, 15, 16, 17, 18] ?_
     iterate 5 (refine Plan.take (v := undef) (so rfl) (by kernel_rfl) (by kernel_rfl) (by kernel_rfl) (fun _ _ _ h => h) (Or.inr ⟨by rfl, rfl⟩) hHeld ?_; try simp only [Act.put, pz1, pz2, pz3])
     refine Plan.done ?_
     refine Plan.start [19, 20] ?_
     iterate 2 (refine Plan.tk (so rfl) hHeld ?_; try simp only [Act.put, pz1, pz2, pz3])
     refine Plan.done ?_
     refine Plan.start [21, 22, 23, 24, 25, 26, 27, 28, 29, 30, 31, 32, 33, 34, 35] ?_
     iterate 15 (refine Plan.take (v := undef) (so rfl) (by kernel_rfl) (by kernel_rfl) (by kernel_rfl) (fun _ _ _ h => h) (Or.inr ⟨by rfl, rfl⟩) hHeld ?_; try simp only [Act.put, pz1, pz2, pz3])
     refine Plan.done ?_
     refine Plan.start [36, 37] ?_
     iterate 2 (refine Plan.tk (so rfl) hHeld ?_; try simp only [Act.put, pz1, pz2, pz3])
     refine Plan.done ?_
     refine Plan.start [38, 39, 40, 41, 42] ?_
     iterate 5 (refine Plan.take (v := undef) (so rfl) (by kernel_rfl) (by kernel_rfl) (by kernel_rfl) (fun _ _ _ h => h) (Or.inr ⟨by rfl, rfl⟩) hHeld ?_; try simp only [Act.put, pz1, pz2, pz3])
     refine Plan.done ?_
     refine Plan.start [43] ?_
     refine Plan.tk (so rfl) hHeld ?_
     try simp only [Act.put, pz1, pz2, pz3]
     refine Plan.done ?_
     refine wpAnyH_done (by kernel_rfl) ?_ _
     clear hHeld
     go_wp2_with fail
     go_ret
     exact ⟨by rw [HNO.out]; rfl, HBr.out.trans (HB2.out.mono HBr.out.size)⟩
  ·have t1 : decide ((i : Int) < (fs.length : Int)) = false := by simp; omega
   have HYES : Hid (fieldsB (fieldsT fs fv) = true) := Hd (range_all.2 fun j hj => HOK.out j (by rw [fieldsT_len] at hj; omega))
   clear hle hbr
   go_wp2_with fail
   go_ret
   exact ⟨by rw [HYES.out]; rfl, HBr.out⟩
end Go.Proofs.YtgjblmlibhppiaaGreatDoor
