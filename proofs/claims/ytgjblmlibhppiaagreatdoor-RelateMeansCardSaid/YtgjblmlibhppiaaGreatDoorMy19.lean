import Derived.Test.YtgjblmlibhppiaaGreatDoorMy16
import Derived.Test.YtgjblmlibhppiaaGreatDoorMy18
namespace Go.Proofs.YtgjblmlibhppiaaGreatDoor
set_option maxRecDepth 100000
set_option maxHeartbeats 64000000
open Go.RowKit
theorem over_part {t : Ty} (hf : formT t = true) (hk : t.k = 23) : (∀ p ∈ t.ps, p.k = 13) ∧ t.ps ≠ [] := by
 obtain ⟨k, s, n, ps, fs, vs⟩ := t
 obtain rfl : k = 23 := hk
 have h1 := form_self hf
 have h2 := form_fits hf
 rw [show shapeK 23 = ⟨false, false, false, false, 2, -1, true⟩ from rfl] at h2
 unfold fitsB at h2
 simp only [Bool.and_eq_true, Bool.or_eq_true, decide_eq_true_eq, beq_iff_eq] at h2
 unfold selfB at h1
 simp only [show ((23 : Int) = 9) = False by simp, show ((23 : Int) = 16 ∨ (23 : Int) = 22 ∨ (23 : Int) = 17) = False by simp, show ((23 : Int) = 13) = False by simp, show ((23 : Int) = 14) = False by simp, show ((23 : Int) = 15) = False by simp, show ((23 : Int) = 20) = False by simp, show ((23 : Int) = 21) = False by simp, if_false, if_true, List.all_eq_true, beq_iff_eq] at h1
 refine ⟨h1, fun e => ?_⟩
 have e : ps = [] := e
 subst e
 simp at h2
inductive Fit : Ty → Ty → Prop
 | top {s t : Ty} : t.k = 2 ∨ t.k = 3 → Fit s t
 | never {s t : Ty} : s.k = 1 → Fit s t
 | same (s : Ty) : Fit s s
 | union {s t : Ty} : s.k = 15 → (∀ p ∈ s.ps, Fit p t) → Fit s t
 | some {s t q : Ty} : s.k ≠ 3 → s.k ≠ 15 → t.k = 15 → q ∈ t.ps → Fit s q → Fit s t
 | overs {s t : Ty} : s.k ≠ 3 → s.k ≠ 15 → t.k = 23 → (∀ q ∈ t.ps, Fit s q) → Fit s t
 | over {s t p : Ty} : s.k = 23 → t.k ≠ 23 → p ∈ s.ps → Fit p t → Fit s t
 | num {s t : Ty} : s.k = 9 → t.k = 7 → Fit s t
 | str {s t : Ty} : s.k = 10 → t.k = 8 → Fit s t
 | arr {s t q : Ty} : (s.k = 11 ∨ s.k = 12) → t.k = 11 → t.ps[0]? = .some q → (∀ p ∈ s.ps, Fit p q) → Fit s t
 | tup {s t : Ty} : s.k = 12 → t.k = 12 → s.ps.length = t.ps.length → (∀ (i : Nat) (p q : Ty), s.ps[i]? = .some p → t.ps[i]? = .some q → Fit p q) → Fit s t
 | fn {s t ra rb : Ty} : s.k = 13 → t.k = 13 → s.ps.length ≤ t.ps.length → s.ps.getLast? = .some ra → t.ps.getLast? = .some rb → (∀ (i : Nat) (p q : Ty), i + 1 < s.ps.length → s.ps[i]? = .some p → t.ps[i]? = .some q → Fit q p) → Fit ra rb → Fit s t
 | obj {s t : Ty} (g : ByteArray × Int × Ty → ByteArray × Int × Ty) : s.k = 14 → t.k = 14 → (∀ f ∈ t.fs, g f ∈ s.fs) → (∀ f ∈ t.fs, (g f).1 = f.1) → (∀ f ∈ t.fs, f.2.1 % 2 = 0 → (g f).2.1 % 2 = 0) → (∀ f ∈ t.fs, Fit (g f).2.2 f.2.2) → (∀ f ∈ t.fs, f.2.1 / 2 % 2 = 1 → (g f).2.1 / 2 % 2 = 1) → (∀ f ∈ t.fs, f.2.1 / 2 % 2 = 1 → Fit f.2.2 (g f).2.2) → Fit s t
theorem top_inv {s t : Ty} (h : Fit s t) : (s.k = 2 ∨ s.k = 3) → formT t = true → smpT t = true → t.k = 2 ∨ t.k = 3 := by
 induction h with
 | top h => exact fun _ _ _ => h
 | never h => intro h1; omega
 | same s => exact fun h _ _ => h
 | union h => intro h1; omega
 | some h1 h2 h3 h4 h5 ih =>
  intro h hf hs
  obtain ⟨-, a, b, -⟩ := union_part hf hs h3 h4
  have := ih h (form_ps hf _ h4) ((smp_get hs).2.2.1 _ h4)
  omega
 | overs h1 h2 h3 h4 ih =>
  intro h hf hs
  obtain ⟨a, b⟩ := over_part hf h3
  obtain ⟨q, l, e⟩ := List.exists_cons_of_ne_nil b
  have hq : q ∈ (_ : Ty).ps := e ▸ List.mem_cons_self
  have := ih q hq h (form_ps hf _ hq) ((smp_get hs).2.2.1 _ hq)
  have := a q hq
  omega
 | over h => intro h1; omega
 | num h => intro h1; omega
 | str h => intro h1; omega
 | arr h => intro h1; omega
 | tup h => intro h1; omega
 | fn h => intro h1; omega
 | obj g h => intro h1; omega
theorem never_inv {s t : Ty} (h : Fit s t) : t.k = 1 → formT s = true → smpT s = true → s.k = 1 := by
 induction h with
 | top h => intro h1; omega
 | never h => exact fun _ _ _ => h
 | same s => exact fun h _ _ => h
 | union h1 h2 ih =>
  rename_i s t
  intro h hf hs
  have h2 : 2 ≤ s.ps.length := by obtain ⟨k, _, _, _, _, _⟩ := s; obtain rfl : k = 15 := h1; exact (form_15 hf).1
  have hp := List.getElem_mem (show 0 < s.ps.length by omega)
  have := ih _ hp h (form_ps hf _ hp) ((smp_get hs).2.2.1 _ hp)
  exact absurd this (union_part hf hs h1 hp).1
 | some h1 h2 h3 => intro h; omega
 | overs h1 h2 h3 => intro h; omega
 | over h1 h2 h3 h4 ih =>
  intro h hf hs
  have := ih h (form_ps hf _ h3) ((smp_get hs).2.2.1 _ h3)
  have := (over_part hf h1).1 _ h3
  omega
 | num h h1 => intro h2; omega
 | str h h1 => intro h2; omega
 | arr h h1 => intro h2; omega
 | tup h h1 => intro h2; omega
 | fn h h1 => intro h2; omega
 | obj g h h1 => intro h2; omega
def GdT (t : Ty) : Prop := formT t = true ∧ smpT t = true
theorem GdT.part {t p : Ty} (h : GdT t) (hp : p ∈ t.ps) : GdT p := ⟨form_ps h.1 p hp, (smp_get h.2).2.2.1 p hp⟩
theorem GdT.field {t : Ty} {f : ByteArray × Int × Ty} (h : GdT t) (hf : f ∈ t.fs) : GdT f.2.2 := ⟨form_fs h.1 f hf, (smp_get h.2).2.2.2 f hf⟩
theorem cnt_pt {t p : Ty} (hp : p ∈ t.ps) : cntT p < cntT t := by
 have h1 := cnt_ps t
 have h2 := cntL_mem hp
 omega
theorem cnt_ft {t : Ty} {f : ByteArray × Int × Ty} (hf : f ∈ t.fs) : cntT f.2.2 < cntT t := by
 have := cnt_fs hf
 omega
theorem over_fin {a c p : Ty} (ha : a.k = 23) (hga : GdT a) (hc : ¬ (c.k = 2 ∨ c.k = 3)) (hgc : GdT c) (hp : p ∈ a.ps) (h : Fit p c) : Fit a c := by
 by_cases h23 : c.k = 23
 ·have hp13 := (over_part hga.1 ha).1 p hp
  cases h with
  | top h => exact absurd h hc
  | never h => omega
  | same => omega
  | union h => omega
  | some _ _ h => omega
  | overs h1 h2 h3 h4 => exact .overs (by omega) (by omega) h23 fun q hq => .over ha (by have := (over_part hgc.1 h23).1 q hq; omega) hp (h4 q hq)
  | over h => omega
  | num h => omega
  | str h => omega
  | arr h => omega
  | tup h => omega
  | fn _ h => omega
  | obj _ h => omega
 ·exact .over ha h23 hp h
theorem fit_trans (n : Nat) : ∀ a b c : Ty, cntT a + cntT b + cntT c ≤ n → GdT a → GdT b → GdT c → Fit a b → Fit b c → Fit a c := by
 induction n with
 | zero => intro a b c h; have := cntT_pos a; omega
 | succ n ih =>
  intro a b c hn ga gb gc h1 h2
  by_cases hc : c.k = 2 ∨ c.k = 3
  ·exact .top hc
  by_cases ha1 : a.k = 1
  ·exact .never ha1
  have hb23 : ¬ (b.k = 2 ∨ b.k = 3) := fun e => hc (top_inv h2 e gc.1 gc.2)
  have ha23 : ¬ (a.k = 2 ∨ a.k = 3) := fun e => hb23 (top_inv h1 e gb.1 gb.2)
  by_cases ha15 : a.k = 15
  ·cases h1 with
   | top h => exact absurd h hb23
   | never h => exact absurd h ha1
   | same => exact h2
   | union _ h => exact .union ha15 fun p hp => ih p b c (by have := cnt_pt hp; omega) (ga.part hp) gb gc (h p hp) h2
   | some _ h => exact absurd ha15 h
   | overs _ h => exact absurd ha15 h
   | over h => omega
   | num h => omega
   | str h => omega
   | arr h => omega
   | tup h => omega
   | fn h => omega
   | obj _ h => omega
  have hb1 : b.k ≠ 1 := fun e => ha1 (never_inv h1 e ga.1 ga.2)
  have hov : a.k = 23 → ∀ p ∈ a.ps, Fit p b → Fit a c := fun e p hp h => over_fin e ga hc gc hp (ih p b c (by have := cnt_pt hp; omega) (ga.part hp) gb gc h h2)
  cases h2 with
  | top h => exact absurd h hc
  | never h => exact absurd h hb1
  | same => exact h1
  | union hk h =>
   cases h1 with
   | top h => exact absurd h hb23
   | never h => exact absurd h ha1
   | same => omega
   | union h => omega
   | some _ _ _ hq hf => exact ih a _ c (by have := cnt_pt hq; omega) ga (gb.part hq) gc hf (h _ hq)
   | overs _ _ h => omega
   | over hk hn hp hf => exact hov hk _ hp hf
   | num _ h => omega
   | str _ h => omega
   | arr _ h => omega
   | tup _ h => omega
   | fn _ h => omega
   | obj _ _ h => omega
  | some _ _ hk hq hf => exact .some (by omega) ha15 hk hq (ih a b _ (by have := cnt_pt hq; omega) ga gb (gc.part hq) h1 hf)
  | overs _ _ hk h => exact .overs (by omega) ha15 hk fun q hq => ih a b q (by have := cnt_pt hq; omega) ga gb (gc.part hq) h1 (h q hq)
  | over hk hn2 hp hf =>
   cases h1 with
   | top h => exact absurd h hb23
   | never h => exact absurd h ha1
   | same => exact .over hk hn2 hp hf
   | union h => omega
   | some _ _ h => omega
   | overs _ _ _ h => exact ih a _ c (by have := cnt_pt hp; omega) ga (gb.part hp) gc (h _ hp) hf
   | over _ h => omega
   | num _ h => omega
   | str _ h => omega
   | arr _ h => omega
   | tup _ h => omega
   | fn _ h => omega
   | obj _ _ h => omega
  | num hk hk2 =>
   cases h1 with
   | top h => exact absurd h hb23
   | never h => exact absurd h ha1
   | same => exact .num hk hk2
   | union h => omega
   | some _ _ h => omega
   | overs _ _ h => omega
   | over hk hn hp hf => exact hov hk _ hp hf
   | num _ h => omega
   | str _ h => omega
   | arr _ h => omega
   | tup _ h => omega
   | fn _ h => omega
   | obj _ _ h => omega
  | str hk hk2 =>
   cases h1 with
   | top h => exact absurd h hb23
   | never h => exact absurd h ha1
   | same => exact .str hk hk2
   | union h => omega
   | some _ _ h => omega
   | overs _ _ h => omega
   | over hk hn hp hf => exact hov hk _ hp hf
   | num _ h => omega
   | str _ h => omega
   | arr _ h => omega
   | tup _ h => omega
   | fn _ h => omega
   | obj _ _ h => omega
  | arr hk hk2 hq h =>
   have hqm := List.mem_of_getElem? hq
   cases h1 with
   | top h => exact absurd h hb23
   | never h => exact absurd h ha1
   | same => exact .arr hk hk2 hq h
   | union h => omega
   | some _ _ h => omega
   | overs _ _ h => omega
   | over hk hn hp hf => exact hov hk _ hp hf
   | num _ h => omega
   | str _ h => omega
   | arr hj _ hr h3 =>
    have hrm := List.mem_of_getElem? hr
    exact .arr hj hk2 hq fun p hp => ih p _ _ (by have := cnt_pt hp; have := cnt_pt hrm; have := cnt_pt hqm; omega) (ga.part hp) (gb.part hrm) (gc.part hqm) (h3 p hp) (h _ hrm)
   | tup hj hj2 hl h3 =>
    refine .arr (.inr hj) hk2 hq fun p hp => ?_
    obtain ⟨i, hi, rfl⟩ := List.getElem_of_mem hp
    have hm := List.getElem_mem (show i < b.ps.length by omega)
    exact ih _ _ _ (by have := cnt_pt hp; have := cnt_pt hm; have := cnt_pt hqm; omega) (ga.part hp) (gb.part hm) (gc.part hqm) (h3 i _ _ (List.getElem?_eq_getElem hi) (List.getElem?_eq_getElem (by omega))) (h _ hm)
   | fn _ h => omega
   | obj _ _ h => omega
  | tup hk hk2 hl h =>
   cases h1 with
   | top h => exact absurd h hb23
   | never h => exact absurd h ha1
   | same => exact .tup hk hk2 hl h
   | union h => omega
   | some _ _ h => omega
   | overs _ _ h => omega
   | over hk hn hp hf => exact hov hk _ hp hf
   | num _ h => omega
   | str _ h => omega
   | arr _ h => omega
   | tup hj hj2 hl2 h3 =>
    refine .tup hj hk2 (hl2.trans hl) fun i p r hp hr => ?_
    have hi := (List.getElem?_eq_some_iff.1 hp).1
    have hm := List.getElem_mem (show i < b.ps.length by omega)
    have hpm := List.mem_of_getElem? hp
    have hrm := List.mem_of_getElem? hr
    exact ih _ _ _ (by have := cnt_pt hpm; have := cnt_pt hm; have := cnt_pt hrm; omega) (ga.part hpm) (gb.part hm) (gc.part hrm) (h3 i _ _ hp (List.getElem?_eq_getElem (by omega))) (h i _ _ (List.getElem?_eq_getElem (by omega)) hr)
   | fn _ h => omega
   | obj _ _ h => omega
  | fn hk hk2 hl hra hrb h hr =>
   cases h1 with
   | top h => exact absurd h hb23
   | never h => exact absurd h ha1
   | same => exact .fn hk hk2 hl hra hrb h hr
   | union h => omega
   | some _ _ h => omega
   | overs _ _ h => omega
   | over hk hn hp hf => exact hov hk _ hp hf
   | num _ h => omega
   | str _ h => omega
   | arr _ h => omega
   | tup _ h => omega
   | fn hj _ hl2 hqa hqb h3 hr2 =>
    rw [hra] at hqb
    injection hqb with hqb
    subst hqb
    have m1 := List.mem_of_getLast? hqa
    have m2 := List.mem_of_getLast? hra
    have m3 := List.mem_of_getLast? hrb
    refine .fn hj hk2 (Nat.le_trans hl2 hl) hqa hrb (fun i p r hi hp hr3 => ?_) (ih _ _ _ (by have := cnt_pt m1; have := cnt_pt m2; have := cnt_pt m3; omega) (ga.part m1) (gb.part m2) (gc.part m3) hr2 hr)
    have hm := List.getElem_mem (show i < b.ps.length by omega)
    have hpm := List.mem_of_getElem? hp
    have hrm := List.mem_of_getElem? hr3
    exact ih _ _ _ (by have := cnt_pt hpm; have := cnt_pt hm; have := cnt_pt hrm; omega) (gc.part hrm) (gb.part hm) (ga.part hpm) (h i _ _ (by omega) (List.getElem?_eq_getElem (by omega)) hr3) (h3 i _ _ hi hp (List.getElem?_eq_getElem (by omega)))
   | obj _ _ h => omega
  | obj g hk hk2 x1 x2 x3 x4 x5 x6 =>
   cases h1 with
   | top h => exact absurd h hb23
   | never h => exact absurd h ha1
   | same => exact .obj g hk hk2 x1 x2 x3 x4 x5 x6
   | union h => omega
   | some _ _ h => omega
   | overs _ _ h => omega
   | over hk hn hp hf => exact hov hk _ hp hf
   | num _ h => omega
   | str _ h => omega
   | arr _ h => omega
   | tup _ h => omega
   | fn _ h => omega
   | obj e hj _ y1 y2 y3 y4 y5 y6 =>
    refine .obj (fun f => e (g f)) hj hk2 (fun f hf => y1 _ (x1 f hf)) (fun f hf => (y2 _ (x1 f hf)).trans (x2 f hf)) (fun f hf h => y3 _ (x1 f hf) (x3 f hf h)) (fun f hf => ?_) (fun f hf h => y5 _ (x1 f hf) (x5 f hf h)) fun f hf h => ?_
    ·exact ih _ _ _ (by have := cnt_ft hf; have := cnt_ft (x1 f hf); have := cnt_ft (y1 _ (x1 f hf)); omega) (ga.field (y1 _ (x1 f hf))) (gb.field (x1 f hf)) (gc.field hf) (y4 _ (x1 f hf)) (x4 f hf)
    ·exact ih _ _ _ (by have := cnt_ft hf; have := cnt_ft (x1 f hf); have := cnt_ft (y1 _ (x1 f hf)); omega) (gc.field hf) (gb.field (x1 f hf)) (ga.field (y1 _ (x1 f hf))) (x6 f hf h) (y6 _ (x1 f hf) (x5 f hf h))
def OpnP (t : Ty) : Prop := ∀ (K : Nat → Prop) (w : World) (bp op : Nat), AtT K w t bp op → smpT t = true → Calls Tryz.prog 92 #[.pointer (some ⟨bp, op, none⟩)] w fun e w' => e = .returned (.bool false) ∧ Below w.heap.size w w'
theorem open_any (t : Ty) : OpnP t := by
 refine Ty.ind (C := OpnP) (fun k s n ps fs vs hp hf hv => ?_) t
 intro K w bp op ha hs
 obtain ⟨hk, -, hsp, -⟩ := smp_get hs
 replace hk : k < 16 ∨ 22 < k := hk
 obtain ⟨cs, hc, hr⟩ := ha
 obtain ⟨A, c, B, d, C, e, rfl, ht, hL, hF, hV⟩ := hr.inv
 simp only [cells6T] at hc
 have HX : Hid (∀ wx, Below w.heap.size w wx → wx.cell? ⟨bp, op, none⟩ = some (.int .i64 k) ∧ wx.cell? ⟨bp, op + 3, none⟩ = some (.slice A ps.length c)) := Hd fun wx hx => ⟨cell_stays hx (hc 0 _ rfl), cell_stays hx (hc 3 _ rfl)⟩
 have HP : Hid (∀ wx, Below w.heap.size w wx → ListT K wx ps A c) := Hd fun wx hx => hL.later hx
 have HIP := Hd hp
 have HSP : Hid (∀ p ∈ ps, smpT p = true) := Hd hsp
 have HLN : Hid (ps.length ≤ 1000000000000000) := Hd (by obtain ⟨_, _, r1, -⟩ := hL; exact r1.big)
 have h16 : (k == 16) = false := by rw [beq_eq_false_iff_ne]; omega
 have h18 : (k == 18) = false := by rw [beq_eq_false_iff_ne]; omega
 have h19 : (k == 19) = false := by rw [beq_eq_false_iff_ne]; omega
 have h20 : (k == 20) = false := by rw [beq_eq_false_iff_ne]; omega
 have h21 : (k == 21) = false := by rw [beq_eq_false_iff_ne]; omega
 have h22 : (k == 22) = false := by rw [beq_eq_false_iff_ne]; omega
 obtain ⟨x0, x3⟩ := HX.out w (Below.refl _ _)
 clear hp hf hv hs hk hsp hc hr hL hF hV
 go_enter Tryz.func92, Tryz.ntmps92
 cases h15 : (k == 15) with
 | false =>
  go_wp2_with fail
  go_ret
  exact ⟨rfl, Below.refl _ _⟩
 | true =>
 go_wp2_with fail
 clear h16 h18 h19 h20 h21 h22 h15 x0 x3
 go_loopw [3, 22] (fun u v wr => ∃ i : Nat, i ≤ ps.length ∧ v = .int .i64 i ∧ Below w.heap.size w wr) (fun _ v _ => ps.length - (intOf v).toNat)
 case atStart => exact ⟨0, Nat.zero_le _, rfl, Below.refl _ _⟩
 case round =>
  obtain ⟨i, hi, rfl, hb⟩ := hrel
  have hln := HLN.out
  have HB := Hd hb
  obtain ⟨x0, x3⟩ := HX.out wr hb
  by_cases hin : i < ps.length
  ·have t1 : decide ((i : Int) < (ps.length : Int)) = true := by simp; omega
   have wr2 : wrap64 ((i : Int) + 1) = ((i + 1 : Nat) : Int) := wrap_one (by omega)
   have HM := Hd (measI hin)
   have HIn : Hid (i + 1 ≤ ps.length) := Hd hin
   obtain ⟨tb, tq, hA, -, hat⟩ := (HP.out wr hb).at (Nat.lt_of_le_of_lt (Nat.zero_le i) hin)
   subst hA
   have hmem := List.getElem_mem hin
   have KH := Hd (HIP.out _ hmem K wr tb (tq + i * 6) (hat i hin) (HSP.out _ hmem))
   have i1 : (0 : Int) ≤ (i : Int) := by omega
   have i2 : (i : Int) < (ps.length : Int) := by omega
   clear hi hb hln hat hmem
   go_wp2_with fail
   refine KH.out.mono ?_
   rintro r w5 ⟨rfl, hb5⟩
   have HB5 : Hid (Below w.heap.size w w5) := Hd (HB.out.trans (hb5.mono HB.out.size))
   clear hb5 KH x0 x3
   go_wp2_with fail
   refine ⟨⟨i + 1, HIn.out, by first | rfl | rw [wr2], HB5.out⟩, ?_⟩
   first | exact HM.out | (rw [wr2]; exact HM.out)
  ·have t1 : decide ((i : Int) < (ps.length : Int)) = false := by simp; omega
   clear hi hb hln
   go_wp2_with fail
   go_ret
   exact ⟨rfl, HB.out⟩
structure FPre (k : Int) (t : ByteArray) (n : Int) (ps : List Ty) (fs : FsT) (vs : VsT) (K : Nat → Prop) (w : World) (A : Option Addr) (c : Nat) (A' : Option Addr) (c' : Nat) (A'' : Option Addr) (c'' : Nat) (w1 : World) : Prop where
 HXC : Hid (∀ wx, Below w1.heap.size w1 wx → wx.cell? ⟨w.heap.size, 0, none⟩ = some (.int .i64 k) ∧ wx.cell? ⟨w.heap.size, 1, none⟩ = some (.string t) ∧ wx.cell? ⟨w.heap.size, 2, none⟩ = some (.int .i64 n) ∧ wx.cell? ⟨w.heap.size, 3, none⟩ = some (.slice A ps.length c) ∧ wx.cell? ⟨w.heap.size, 4, none⟩ = some (.slice A' fs.length c') ∧ wx.cell? ⟨w.heap.size, 5, none⟩ = some (.slice A'' vs.length c''))
 KAll : Hid (∀ wx, Below w1.heap.size w1 wx → Calls Tryz.prog 45 #[.slice A ps.length c] wx fun e w' => e = .returned (.bool (ps.all formT)) ∧ Below wx.heap.size wx w')
 KPl : Hid (∀ wx, Calls Tryz.prog 46 #[.agg #[.int .i64 k, .string t, .int .i64 n, .slice A ps.length c, .slice A' fs.length c', .slice A'' vs.length c'']] wx fun e w' => e = .returned (.bool (t.toList == [] && n == 0)) ∧ Below wx.heap.size wx w')
 KNm : Hid (∀ wx, Calls Tryz.prog 49 #[.string t] wx fun e w' => e = .returned (.bool (nameT t)) ∧ Below wx.heap.size wx w')
 KOb : Hid (∀ wx, Below w1.heap.size w1 wx → Calls Tryz.prog 48 #[.slice A' fs.length c'] wx fun e w' => e = .returned (.bool (fieldsB (fieldsT fs formT))) ∧ Below wx.heap.size wx w')
 KBi : Hid (∀ wx, Below w1.heap.size w1 wx → Calls Tryz.prog 47 #[.slice A'' vs.length c''] wx fun e w' => e = .returned (.bool (varsB (varsT vs formT))) ∧ Below wx.heap.size wx w')
 KOv : Hid (∀ wx, Below w1.heap.size w1 wx → Calls Tryz.prog 50 #[.slice A ps.length c] wx fun e w' => e = .returned (.bool (overT ps)) ∧ w' = wx)
 HREP : Hid (RepT K w (.mk k t n ps fs vs) [.int .i64 k, .string t, .int .i64 n, .slice A ps.length c, .slice A' fs.length c', .slice A'' vs.length c''])
 HCN : Hid (1 + (cntL ps + (cntF fs + cntV vs)) ≤ 1000000)
 HBZ : Hid (Below w.heap.size w w1)
 HB : Hid (Below w1.heap.size w1 w1)
 HS1 : Hid (w1.heap.size = w.heap.size + 1)
 HX0 : Hid (w1.heap[w.heap.size]? = some (.cells #[.int .i64 k, .string t, .int .i64 n, .slice A ps.length c, .slice A' fs.length c', .slice A'' vs.length c''] 26 (0, 0)))
 HW1 : Hid (w1 = w.alloc (.cells #[.int .i64 k, .string t, .int .i64 n, .slice A ps.length c, .slice A' fs.length c', .slice A'' vs.length c''] 26))
 hlp : ps.length ≤ 1000000000000000
 hlf : fs.length ≤ 1000000000000000
 hlv : vs.length ≤ 1000000000000000
theorem form_pre (k : Int) (t : ByteArray) (n : Int) (ps : List Ty) (fs : FsT) (vs : VsT) (hp : ∀ p ∈ ps, FormR p) (hf : ∀ f ∈ fs, FormR f.2.2) (hv : ∀ v ∈ vs, ∀ b ∈ v.2, FormR b)
  (main : ∀ (K : Nat → Prop) (w : World) (A : Option Addr) (c : Nat) (A' : Option Addr) (c' : Nat) (A'' : Option Addr) (c'' : Nat) (w1 : World), FPre k t n ps fs vs K w A c A' c' A'' c'' w1 →
   Calls Tryz.prog 23 #[.agg #[.int .i64 k, .string t, .int .i64 n, .slice A ps.length c, .slice A' fs.length c', .slice A'' vs.length c'']] w fun e w' => e = .returned (.bool (formT (.mk k t n ps fs vs))) ∧ Below w.heap.size w w') : FormR (.mk k t n ps fs vs) := by
 intro K w cs hrep hc
 obtain ⟨A, c, A', c', A'', c'', rfl, hts, hL, hF, hV⟩ := hrep.inv
 simp only [cells6T]
 obtain ⟨w1, hw1⟩ : ∃ x, x = w.alloc (.cells #[.int .i64 k, .string t, .int .i64 n, .slice A ps.length c, .slice A' fs.length c', .slice A'' vs.length c''] 26) := ⟨_, rfl⟩
 have hb1 : Below w.heap.size w w1 := by rw [hw1]; exact (Below.refl _ _).alloc (Nat.le_refl _) _
 have hs1 : w1.heap.size = w.heap.size + 1 := by rw [hw1]; simp
 have hx0 : w1.heap[w.heap.size]? = some (.cells #[.int .i64 k, .string t, .int .i64 n, .slice A ps.length c, .slice A' fs.length c', .slice A'' vs.length c''] 26 (0, 0)) := by rw [hw1]; exact heap_alloc_new w _
 have HXC : Hid (∀ wx, Below w1.heap.size w1 wx → wx.cell? ⟨w.heap.size, 0, none⟩ = some (.int .i64 k) ∧ wx.cell? ⟨w.heap.size, 1, none⟩ = some (.string t) ∧ wx.cell? ⟨w.heap.size, 2, none⟩ = some (.int .i64 n) ∧ wx.cell? ⟨w.heap.size, 3, none⟩ = some (.slice A ps.length c) ∧ wx.cell? ⟨w.heap.size, 4, none⟩ = some (.slice A' fs.length c') ∧ wx.cell? ⟨w.heap.size, 5, none⟩ = some (.slice A'' vs.length c'')) := Hd fun wx hx => by
  have h := box_up hx (by omega) hx0
  exact ⟨Ch h 0, Ch h 1, Ch h 2, Ch h 3, Ch h 4, Ch h 5⟩
 have hcn : 1 + (cntL ps + (cntF fs + cntV vs)) ≤ 1000000 := by rw [← cntT_mk k t n ps fs vs]; exact hc
 have KAll := Hd fun wx (hx : Below w1.heap.size w1 wx) => all_ref ps hp (hL.later (hb1.trans (hx.mono hb1.size))) (by omega)
 have KPl := Hd fun wx => plain_ref (w := wx) k t n A ps.length c A' fs.length c' A'' vs.length c''
 have KNm := Hd fun wx => name_ref t wx hts
 have KOb := Hd fun wx (hx : Below w1.heap.size w1 wx) => object_ref fs hf (hF.later (hb1.trans (hx.mono hb1.size))) (by omega)
 have hlv : vs.length ≤ 1000000000000000 := by obtain ⟨_, _, hr, _⟩ := hV; exact hr.big
 have KBi := Hd fun wx (hx : Below w1.heap.size w1 wx) => binds_ref vs hv (hV.later (hb1.trans (hx.mono hb1.size))) hlv (by omega)
 have KOv := Hd fun wx (hx : Below w1.heap.size w1 wx) => over_ref (hL.later (hb1.trans (hx.mono hb1.size)))
 have HREP := Hd hrep
 have HL := Hd hL
 have HCN := Hd hcn
 have HBZ := Hd hb1
 have HB : Hid (Below w1.heap.size w1 w1) := Hd (Below.refl _ _)
 have HS1 := Hd hs1
 have HX0 := Hd hx0
 have HW1 := Hd hw1
 have hlp := hL.short
 have hlf := hF.shortF
 have HP := Hd hp
 have HF' := Hd hf
 have HV' := Hd hv
 exact main K w A c A' c' A'' c'' w1 ⟨HXC, KAll, KPl, KNm, KOb, KBi, KOv, HREP, HCN, HBZ, HB, HS1, HX0, HW1, hlp, hlf, hlv⟩
theorem parts_good {a x : Ty} (ga : GdT a) (hx : x ∈ parts1 a) : GdT x ∧ x.k ≠ 15 ∧ Fit x a := by
 refine ⟨?_, parts1_not15 a x hx, ?_⟩
 all_goals
  by_cases h : a.k = 15
  ·rw [parts1_15 h, flat_self fun y hy => (union_part ga.1 ga.2 h hy).2.2.2] at hx
   first
    | exact ga.part hx
    | (obtain ⟨-, -, h3, h15⟩ := union_part ga.1 ga.2 h hx; exact .some h3 h15 h hx (.same x))
  ·rw [parts1_one h] at hx
   obtain rfl : x = a := by simpa using hx
   first
    | exact ga
    | exact .same x
theorem fit_parts {a t : Ty} (ga : GdT a) (gt : GdT t) : Fit a t ↔ ∀ x ∈ parts1 a, Fit x t := by
 constructor
 ·intro h x hx
  obtain ⟨gx, -, hf⟩ := parts_good ga hx
  exact fit_trans _ x a t (Nat.le_refl _) gx ga gt hf h
 ·intro h
  by_cases hk : a.k = 15
  ·rw [parts1_15 hk, flat_self fun y hy => (union_part ga.1 ga.2 hk hy).2.2.2] at h
   exact .union hk h
  ·exact h a (by rw [parts1_one hk]; exact List.mem_singleton.2 rfl)
theorem flat_good {l : List Ty} (hl : ∀ a ∈ l, GdT a) {x : Ty} (hx : x ∈ flatU l) : GdT x ∧ x.k ≠ 15 ∧ ∃ a ∈ l, x ∈ parts1 a := by
 unfold flatU at hx
 obtain ⟨L, hL, hx⟩ := List.mem_flatten.1 hx
 obtain ⟨a, ha, rfl⟩ := List.mem_map.1 hL
 obtain ⟨h1, h2, -⟩ := parts_good (hl a ha) hx
 exact ⟨h1, h2, a, ha, hx⟩
theorem kept_flat {l : List Ty} {x : Ty} (hx : x ∈ keptU l) : x ∈ flatU l := (List.mem_filter.1 hx).1
theorem shut_cases (s : List Ty) : (s = [] ∧ shutU s = tyK 1) ∨ (∃ x, s = [x] ∧ shutU s = x) ∨ ((shutU s).k = 15 ∧ (shutU s).ps = s ∧ (shutU s).fs = [] ∧ (shutU s).vs = []) := by
 match s with
 | [] => exact .inl ⟨rfl, rfl⟩
 | [x] => exact .inr (.inl ⟨x, rfl, rfl⟩)
 | x :: y :: l => exact .inr (.inr ⟨rfl, rfl, rfl, rfl⟩)
theorem union_good {l : List Ty} (hl : ∀ a ∈ l, GdT a) : GdT (unionT l) := by
 refine ⟨form_union fun x hx => (hl x hx).1, ?_⟩
 have hs : ∀ x ∈ sortT (keptU l), smpT x = true := fun x hx => (flat_good hl (kept_flat ((mem_sortT x _).1 hx))).1.2
 unfold unionT
 generalize sortT (keptU l) = s at hs
 match s, hs with
 | [], _ => unfold shutU tyK; rw [smpT_mk]; rfl
 | [x], hs => exact hs x (by simp)
 | x :: y :: l, hs =>
  unfold shutU
  rw [smpT_mk, Bool.and_eq_true, Bool.and_eq_true, List.all_eq_true]
  exact ⟨rfl, hs, rfl⟩
theorem sort_one {m : List Ty} {z : Ty} (h0 : m ≠ []) (h : ∀ x ∈ m, x = z) : sortT m = [z] := by
 have hs : ∀ x ∈ sortT m, x = z := fun x hx => h x ((mem_sortT x m).1 hx)
 obtain ⟨a, l, e⟩ := List.exists_cons_of_ne_nil h0
 have hz : z ∈ sortT m := (mem_sortT z m).2 (by rw [e, ← h a (e ▸ List.mem_cons_self)]; exact List.mem_cons_self)
 have hA := asc_sortT m
 revert hs hz hA
 generalize sortT m = s
 intro hs hz hA
 match s, hs, hz, hA with
 | [], _, hz, _ => cases hz
 | [x], hs, _, _ => rw [hs x (by simp)]
 | x :: y :: l, hs, _, hA =>
  have h1 := hs x (by simp)
  have h2 := hs y (by simp)
  subst h1
  subst h2
  unfold Asc at hA
  have := (List.pairwise_cons.1 hA).1 _ List.mem_cons_self
  rw [ordT_zero.2 rfl] at this
  exact absurd this (by decide)
def noF : Ty → Bool
 | .mk k _ _ ps fs _ => !(k == 13 || k == 23) && ((ps.attach.all fun ⟨p, _⟩ => noF p) && (fs.attach.all fun ⟨f, _⟩ => noF f.2.2))
termination_by t => SizeOf.sizeOf t
decreasing_by
 ·exact ty_lt_p ‹_›
 ·exact ty_lt_f ‹_›
theorem noF_mk (k t n ps fs vs) : noF (.mk k t n ps fs vs) = (!(k == 13 || k == 23) && (ps.all noF && fs.all fun f => noF f.2.2)) := by
 rw [noF]
 have h1 : (ps.attach.all fun p => noF p.1) = ps.all noF := all_attach noF ps
 have h2 : (fs.attach.all fun f => noF f.1.2.2) = fs.all fun f => noF f.2.2 := all_attach (fun f : ByteArray × Int × Ty => noF f.2.2) fs
 rw [h1, h2]
theorem noF_get {t : Ty} (h : noF t = true) : t.k ≠ 13 ∧ t.k ≠ 23 ∧ (∀ p ∈ t.ps, noF p = true) ∧ ∀ f ∈ t.fs, noF f.2.2 = true := by
 obtain ⟨k, s, n, ps, fs, vs⟩ := t
 rw [noF_mk, Bool.and_eq_true, Bool.and_eq_true, List.all_eq_true, List.all_eq_true, Bool.not_eq_true', Bool.or_eq_false_iff, beq_eq_false_iff_ne, beq_eq_false_iff_ne] at h
 exact ⟨h.1.1, h.1.2, h.2.1, h.2.2⟩
inductive Val where
 | mk (k : Int) (t : ByteArray) (n : Int) (names : List ByteArray) (parts : List Val)
def Val.k : Val → Int | .mk k _ _ _ _ => k
def Val.t : Val → ByteArray | .mk _ t _ _ _ => t
def Val.n : Val → Int | .mk _ _ n _ _ => n
def Val.names : Val → List ByteArray | .mk _ _ _ l _ => l
def Val.parts : Val → List Val | .mk _ _ _ _ l => l
inductive IsV : Val → Ty → Prop
 | top {v : Val} {t : Ty} : t.k = 2 ∨ t.k = 3 → IsV v t
 | prim {v : Val} {t : Ty} : 4 ≤ t.k → t.k ≤ 8 → v.k = t.k → IsV v t
 | num {v : Val} {t : Ty} : t.k = 9 → v.k = 7 → v.n = t.n → IsV v t
 | str {v : Val} {t : Ty} : t.k = 10 → v.k = 8 → v.t = t.t → IsV v t
 | arr {v : Val} {t q : Ty} : t.k = 11 → v.k = 11 → t.ps[0]? = .some q → (∀ p ∈ v.parts, IsV p q) → IsV v t
 | tup {v : Val} {t : Ty} : t.k = 12 → v.k = 11 → v.parts.length = t.ps.length → (∀ (i : Nat) (p : Val) (q : Ty), v.parts[i]? = .some p → t.ps[i]? = .some q → IsV p q) → IsV v t
 | union {v : Val} {t q : Ty} : t.k = 15 → q ∈ t.ps → IsV v q → IsV v t
 | obj {v : Val} {t : Ty} : t.k = 14 → v.k = 14 → (∀ f ∈ t.fs, ∀ (i : Nat) (p : Val), v.names[i]? = .some f.1 → v.parts[i]? = .some p → IsV p f.2.2) → (∀ f ∈ t.fs, f.2.1 % 2 = 0 → ∃ (i : Nat) (p : Val), v.names[i]? = .some f.1 ∧ v.parts[i]? = .some p) → IsV v t
theorem fit_means {s t : Ty} (h : Fit s t) : noF s = true → noF t = true → ∀ v, IsV v s → IsV v t := by
 induction h with
 | top h => exact fun _ _ v _ => .top h
 | never h =>
  intro _ _ v hv
  cases hv with
  | top h => omega
  | prim h => omega
  | num h => omega
  | str h => omega
  | arr h => omega
  | tup h => omega
  | union h => omega
  | obj h => omega
 | same s => exact fun _ _ v h => h
 | union h1 h2 ih =>
  intro hs ht v hv
  cases hv with
  | top h => omega
  | prim h => omega
  | num h => omega
  | str h => omega
  | arr h => omega
  | tup h => omega
  | union _ hq hv => exact ih _ hq ((noF_get hs).2.2.1 _ hq) ht v hv
  | obj h => omega
 | some h1 h2 h3 h4 h5 ih => exact fun hs ht v hv => .union h3 h4 (ih hs ((noF_get ht).2.2.1 _ h4) v hv)
 | overs h1 h2 h3 => exact fun _ ht => absurd h3 (noF_get ht).2.1
 | over h1 => exact fun hs => absurd h1 (noF_get hs).2.1
 | num h1 h2 =>
  intro _ _ v hv
  cases hv with
  | top h => omega
  | prim h => omega
  | num _ hk _ => exact .prim (by omega) (by omega) (by omega)
  | str h => omega
  | arr h => omega
  | tup h => omega
  | union h => omega
  | obj h => omega
 | str h1 h2 =>
  intro _ _ v hv
  cases hv with
  | top h => omega
  | prim h => omega
  | num h => omega
  | str _ hk _ => exact .prim (by omega) (by omega) (by omega)
  | arr h => omega
  | tup h => omega
  | union h => omega
  | obj h => omega
 | arr h1 h2 h3 h4 ih =>
  intro hs ht v hv
  have hq := List.mem_of_getElem? h3
  have nq := (noF_get ht).2.2.1 _ hq
  cases hv with
  | top h => omega
  | prim h => omega
  | num h => omega
  | str h => omega
  | arr _ hk hr hv =>
   have hm := List.mem_of_getElem? hr
   exact .arr h2 hk h3 fun p hp => ih _ hm ((noF_get hs).2.2.1 _ hm) nq p (hv p hp)
  | tup _ hk hl hv =>
   refine .arr h2 hk h3 fun p hp => ?_
   obtain ⟨i, hi, rfl⟩ := List.getElem_of_mem hp
   have hm := List.getElem_mem (hl ▸ hi)
   exact ih _ hm ((noF_get hs).2.2.1 _ hm) nq _ (hv i _ _ (List.getElem?_eq_getElem hi) (List.getElem?_eq_getElem (hl ▸ hi)))
  | union h => omega
  | obj h => omega
 | tup h1 h2 h3 h4 ih =>
  rename_i s t
  intro hs ht v hv
  cases hv with
  | top h => omega
  | prim h => omega
  | num h => omega
  | str h => omega
  | arr h => omega
  | tup _ hk hl hv =>
   refine .tup h2 hk (hl.trans h3) fun i p q hp hq => ?_
   have hi := (List.getElem?_eq_some_iff.1 hq).1
   have hi2 : i < s.ps.length := by omega
   exact ih i _ _ (List.getElem?_eq_getElem hi2) hq ((noF_get hs).2.2.1 _ (List.getElem_mem hi2)) ((noF_get ht).2.2.1 _ (List.mem_of_getElem? hq)) p (hv i _ _ hp (List.getElem?_eq_getElem hi2))
  | union h => omega
  | obj h => omega
 | fn h1 => exact fun hs => absurd h1 (noF_get hs).1
 | obj g h1 h2 x1 x2 x3 x4 x5 x6 ih1 ih2 =>
  intro hs ht v hv
  cases hv with
  | top h => omega
  | prim h => omega
  | num h => omega
  | str h => omega
  | arr h => omega
  | tup h => omega
  | union h => omega
  | obj _ hk y1 y2 =>
   refine .obj h2 hk (fun f hf i p hn hp => ih1 f hf ((noF_get hs).2.2.2 _ (x1 f hf)) ((noF_get ht).2.2.2 _ hf) p (y1 _ (x1 f hf) i p (by rw [x2 f hf]; exact hn) hp)) fun f hf h => ?_
   obtain ⟨i, p, hn, hp⟩ := y2 _ (x1 f hf) (x3 f hf h)
   exact ⟨i, p, by rw [← x2 f hf]; exact hn, hp⟩
def FnF (s t : Ty) : Prop := s.ps.length ≤ t.ps.length ∧ (∀ (i : Nat) (p q : Ty), i + 1 < s.ps.length → s.ps[i]? = some p → t.ps[i]? = some q → Fit q p) ∧ ∃ ra rb, s.ps.getLast? = some ra ∧ t.ps.getLast? = some rb ∧ Fit ra rb
def ObF (s t : Ty) : Prop := ∀ f ∈ t.fs, ∃ g ∈ s.fs, g.1 = f.1 ∧ (f.2.1 % 2 = 0 → g.2.1 % 2 = 0) ∧ Fit g.2.2 f.2.2 ∧ (f.2.1 / 2 % 2 = 1 → g.2.1 / 2 % 2 = 1 ∧ Fit f.2.2 g.2.2)
def RowF (s t : Ty) : Prop := (t.k = 7 ∧ s.k = 9) ∨ (t.k = 8 ∧ s.k = 10) ∨ (t.k = 11 ∧ (s.k = 11 ∨ s.k = 12) ∧ ∃ q, t.ps[0]? = some q ∧ ∀ p ∈ s.ps, Fit p q) ∨ (t.k = 12 ∧ s.k = 12 ∧ s.ps.length = t.ps.length ∧ ∀ (i : Nat) (p q : Ty), s.ps[i]? = some p → t.ps[i]? = some q → Fit p q) ∨ (t.k = 13 ∧ s.k = 13 ∧ FnF s t) ∨ (t.k = 14 ∧ s.k = 14 ∧ ObF s t)
theorem fit_pln {s t : Ty} (h : plnT s t = true) : Fit s t := by
 unfold plnT at h
 rw [Bool.or_eq_true, Bool.or_eq_true, Bool.or_eq_true, beq_iff_eq, beq_iff_eq, beq_iff_eq, decide_eq_true_eq] at h
 rcases h with ((h | h) | h) | h
 ·exact .top (.inr h)
 ·exact .top (.inl h)
 ·exact .never h
 ·rw [ordT_zero.1 h]; exact .same t
theorem fit_row {s t : Ty} (h : RowF s t) : Fit s t := by
 rcases h with ⟨h1, h2⟩ | ⟨h1, h2⟩ | ⟨h1, h2, q, h3, h4⟩ | ⟨h1, h2, h3, h4⟩ | ⟨h1, h2, h3, h4, ra, rb, h5, h6, h7⟩ | ⟨h1, h2, h3⟩
 ·exact .num h2 h1
 ·exact .str h2 h1
 ·exact .arr h2 h1 h3 h4
 ·exact .tup h2 h1 h3 h4
 ·exact .fn h2 h1 h3 h5 h6 h4 h7
 ·classical
  refine .obj (fun f => if h : f ∈ t.fs then (h3 f h).choose else f) h2 h1 ?_ ?_ ?_ ?_ ?_ ?_
  all_goals
   intro f hf
   simp only [dif_pos hf]
   obtain ⟨a, b, c, d, e⟩ := (h3 f hf).choose_spec
   first
    | exact a
    | exact b
    | exact c
    | exact d
    | exact fun h => (e h).1
    | exact fun h => (e h).2
theorem fit_look {s t : Ty} (h : plnT s t = false) : Fit s t ↔ s.k ≠ 3 ∧ ((s.k = 15 ∧ ∀ p ∈ s.ps, Fit p t) ∨ (s.k ≠ 15 ∧ ((t.k = 15 ∧ ∃ q ∈ t.ps, Fit s q) ∨ (t.k = 23 ∧ ∀ q ∈ t.ps, Fit s q) ∨ (t.k ≠ 23 ∧ s.k = 23 ∧ ∃ p ∈ s.ps, Fit p t) ∨ (t.k ≠ 23 ∧ s.k ≠ 23 ∧ RowF s t)))) := by
 unfold plnT at h
 rw [Bool.or_eq_false_iff, Bool.or_eq_false_iff, Bool.or_eq_false_iff, beq_eq_false_iff_ne, beq_eq_false_iff_ne, beq_eq_false_iff_ne, decide_eq_false_iff_not] at h
 obtain ⟨⟨⟨h3, h2⟩, h1⟩, hne⟩ := h
 constructor
 ·intro hf
  cases hf with
  | top h => omega
  | never h => exact absurd h h1
  | same => exact absurd (ordT_zero.2 rfl) hne
  | union a b => exact ⟨by omega, .inl ⟨a, b⟩⟩
  | some a b c d e => exact ⟨a, .inr ⟨b, .inl ⟨c, _, d, e⟩⟩⟩
  | overs a b c d => exact ⟨a, .inr ⟨b, .inr (.inl ⟨c, d⟩)⟩⟩
  | over a b c d => exact ⟨by omega, .inr ⟨by omega, .inr (.inr (.inl ⟨b, a, _, c, d⟩))⟩⟩
  | num a b => exact ⟨by omega, .inr ⟨by omega, .inr (.inr (.inr ⟨by omega, by omega, .inl ⟨b, a⟩⟩))⟩⟩
  | str a b => exact ⟨by omega, .inr ⟨by omega, .inr (.inr (.inr ⟨by omega, by omega, .inr (.inl ⟨b, a⟩)⟩))⟩⟩
  | arr a b c d => exact ⟨by omega, .inr ⟨by omega, .inr (.inr (.inr ⟨by omega, by omega, .inr (.inr (.inl ⟨b, a, _, c, d⟩))⟩))⟩⟩
  | tup a b c d => exact ⟨by omega, .inr ⟨by omega, .inr (.inr (.inr ⟨by omega, by omega, .inr (.inr (.inr (.inl ⟨b, a, c, d⟩)))⟩))⟩⟩
  | fn a b c d e f g => exact ⟨by omega, .inr ⟨by omega, .inr (.inr (.inr ⟨by omega, by omega, .inr (.inr (.inr (.inr (.inl ⟨b, a, c, f, _, _, d, e, g⟩))))⟩))⟩⟩
  | obj g a b x1 x2 x3 x4 x5 x6 => exact ⟨by omega, .inr ⟨by omega, .inr (.inr (.inr ⟨by omega, by omega, .inr (.inr (.inr (.inr (.inr ⟨b, a, fun f hf => ⟨g f, x1 f hf, x2 f hf, x3 f hf, x4 f hf, fun h => ⟨x5 f hf h, x6 f hf h⟩⟩⟩))))⟩))⟩⟩
 ·rintro ⟨a, ⟨b, c⟩ | ⟨b, ⟨c, q, d, e⟩ | ⟨c, d⟩ | ⟨c, d, p, e, f⟩ | ⟨c, d, e⟩⟩⟩
  ·exact .union b c
  ·exact .some a b c d e
  ·exact .overs a b c d
  ·exact .over d c e f
  ·exact fit_row e
def FitAt (b : Nat) (fuel lo : Int) (m1 m2 : Option Nat) (asked : Value) (rows : Int) (w : World) (K K' : Nat → Prop) (p q : Ty) : Prop := ∀ wx cs ds, RunI b fuel lo m1 m2 asked rows w wx → RepT K wx p cs → RepT K' wx q ds → Calls Tryz.prog 28 #[.pointer (some ⟨b, 0, none⟩), .agg cs.toArray, .agg ds.toArray] wx (FitPost b fuel lo m1 m2 asked rows wx True (Fit p q))
theorem FitAt.from {b : Nat} {fuel lo : Int} {m1 m2 : Option Nat} {asked : Value} {rows : Int} {w w' : World} {K K' : Nat → Prop} {p q : Ty} (h : FitAt b fuel lo m1 m2 asked rows w K K' p q) (hb : ButG (fun x => x = b) w w') : FitAt b fuel lo m1 m2 asked rows w' K K' p q :=
 fun wx cs ds hu hr hp => h wx cs ds (RunI.trans hb hu (Int.le_refl _)) hr hp
theorem ListT.take {K : Nat → Prop} {w : World} {l : List Ty} {A : Option Addr} {c : Nat} (h : ListT K w l A c) (n : Nat) : ListT K w (l.take n) A c := by
 obtain ⟨b, o, r, hat⟩ := h
 refine ⟨b, o, ⟨by have := r.le; simp only [List.length_take]; omega, by have := r.big; simp only [List.length_take]; omega, r.none, fun h => r.some (by simp only [List.length_take] at h; omega)⟩, fun i hi => ?_⟩
 rw [List.getElem_take]
 exact hat i _
theorem wrap_kd {n : Int} (h : 0 ≤ n) (h' : n ≤ 1000000000000000000) : IntKind.i64.wrap n = n := by
 have h2 : IntKind.i64.wrap n = wrap64 n := by unfold wrap64; exact IntKind.wrap_i64 n
 rw [h2, wrap_in h h']
theorem RunI.but {b : Nat} {fuel lo : Int} {m1 m2 : Option Nat} {asked : Value} {rows : Int} {w0 w1 : World} (h : RunI b fuel lo m1 m2 asked rows w0 w1) : ButG (fun x => x = b) w0 w1 := by obtain ⟨_, _, _, _, h⟩ := h; exact h
theorem RunI.self {b : Nat} {fuel lo : Int} {m1 m2 : Option Nat} {asked : Value} {rows : Int} {w0 w1 : World} (h : RunI b fuel lo m1 m2 asked rows w0 w1) : RunI b fuel lo m1 m2 asked rows w1 w1 := by obtain ⟨st, h1, h2, h3, -⟩ := h; exact ⟨st, h1, h2, h3, ButG.refl _ _⟩
end Go.Proofs.YtgjblmlibhppiaaGreatDoor
