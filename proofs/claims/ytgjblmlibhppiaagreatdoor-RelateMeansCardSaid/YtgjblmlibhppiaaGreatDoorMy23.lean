import Derived.Test.YtgjblmlibhppiaaGreatDoorMy19
namespace Go.Proofs.YtgjblmlibhppiaaGreatDoor
set_option maxRecDepth 100000
set_option maxHeartbeats 64000000
open Go.RowKit
theorem hasK_mem {k : Int} {l : List Ty} : hasK k l = true ↔ ∃ x ∈ l, x.k = k := by
 unfold hasK
 rw [List.any_eq_true]
 exact ⟨fun ⟨x, hx, h⟩ => ⟨x, hx, by simpa using h⟩, fun ⟨x, hx, h⟩ => ⟨x, hx, by simpa using h⟩⟩
theorem union_top {l : List Ty} (hl : ∀ a ∈ l, GdT a) (h : ∃ x ∈ flatU l, x.k = 2 ∨ x.k = 3) : (unionT l).k = 2 ∨ (unionT l).k = 3 := by
 have hinf : ∀ x ∈ flatU l, infT x = false := fun x hx => inf_smp x (flat_good hl hx).1.2
 have hfo : ∀ x ∈ flatU l, formT x = true := fun x hx => (flat_good hl hx).1.1
 have key : ∀ c : Int, (c = 2 ∨ c = 3) → (∃ x ∈ keptU l, x.k = c) → (∀ x ∈ keptU l, x.k = c) → (unionT l).k = c := fun c hc ⟨x, hx, hxc⟩ h => by
  have hz : ∀ y ∈ keptU l, y = tyK c := fun y hy => form_kind (hfo y (kept_flat hy)) (h y hy) (by omega) (by omega)
  unfold unionT
  rw [sort_one (fun e => by rw [e] at hx; cases hx) hz]
  rfl
 by_cases h3 : ∃ x ∈ flatU l, x.k = 3
 ·right
  have ha : (kindsOf (flatU l)).a = true := hasK_mem.2 h3
  obtain ⟨x, hx, hx3⟩ := h3
  refine key 3 (.inr rfl) ⟨x, List.mem_filter.2 ⟨hx, by unfold keepT; simp [hx3]⟩, hx3⟩ fun y hy => ?_
  obtain ⟨hy1, hy2⟩ := List.mem_filter.1 hy
  unfold keepT at hy2
  by_cases e : y.k = 3
  ·exact e
  ·simp [ha, e, hinf y hy1] at hy2
 ·left
  have ha : (kindsOf (flatU l)).a = false := by rw [Bool.eq_false_iff]; intro e; exact h3 (hasK_mem.1 e)
  have h2 : ∃ x ∈ flatU l, x.k = 2 := by
   obtain ⟨x, hx, h | h⟩ := h
   ·exact ⟨x, hx, h⟩
   ·exact absurd ⟨x, hx, h⟩ h3
  have hu : (kindsOf (flatU l)).u = true := hasK_mem.2 h2
  obtain ⟨x, hx, hx2⟩ := h2
  refine key 2 (.inl rfl) ⟨x, List.mem_filter.2 ⟨hx, by unfold keepT; simp [hx2, ha]⟩, hx2⟩ fun y hy => ?_
  obtain ⟨hy1, hy2⟩ := List.mem_filter.1 hy
  unfold keepT at hy2
  have e3 : y.k ≠ 3 := fun e => h3 ⟨y, hy1, e⟩
  by_cases e : y.k = 2
  ·exact e
  ·simp [ha, hu, e, e3, hinf y hy1] at hy2
theorem kept_fit {l : List Ty} (hl : ∀ a ∈ l, GdT a) {y : Ty} (hy : y ∈ keptU l) (h3 : y.k ≠ 3) : Fit y (unionT l) := by
 have hs : y ∈ sortT (keptU l) := (mem_sortT y _).2 hy
 have h15 := (flat_good hl (kept_flat hy)).2.1
 unfold unionT
 rcases shut_cases (sortT (keptU l)) with ⟨e, -⟩ | ⟨x, e, e2⟩ | ⟨hk, hp, -, -⟩
 ·rw [e] at hs; cases hs
 ·rw [e] at hs
  obtain rfl : y = x := by simpa using hs
  rw [e2]
  exact .same y
 ·exact .some h3 h15 hk (by rw [hp]; exact hs) (.same y)
theorem flat_fit {l : List Ty} (hl : ∀ a ∈ l, GdT a) {x : Ty} (hx : x ∈ flatU l) : Fit x (unionT l) := by
 by_cases ht : ∃ x ∈ flatU l, x.k = 2 ∨ x.k = 3
 ·exact .top (union_top hl ht)
 have hno : ∀ y ∈ flatU l, y.k ≠ 2 ∧ y.k ≠ 3 := fun y hy => ⟨fun e => ht ⟨y, hy, .inl e⟩, fun e => ht ⟨y, hy, .inr e⟩⟩
 have ha : (kindsOf (flatU l)).a = false := by rw [Bool.eq_false_iff]; intro e; obtain ⟨y, hy, h⟩ := hasK_mem.1 e; exact (hno y hy).2 h
 have hu : (kindsOf (flatU l)).u = false := by rw [Bool.eq_false_iff]; intro e; obtain ⟨y, hy, h⟩ := hasK_mem.1 e; exact (hno y hy).1 h
 obtain ⟨gx, -, -⟩ := flat_good hl hx
 by_cases h1 : x.k = 1
 ·exact .never h1
 have kp : ∀ y ∈ flatU l, y.k ≠ 1 → y.k ≠ 9 → y.k ≠ 10 → y ∈ keptU l := fun y hy e1 e9 e10 => List.mem_filter.2 ⟨hy, by
  unfold keepT
  simp [e1, e9, e10, (hno y hy).1, (hno y hy).2, ha, hu]⟩
 by_cases h9 : x.k = 9
 ·by_cases hn : (kindsOf (flatU l)).n = true
  ·obtain ⟨y, hy, hk⟩ := hasK_mem.1 hn
   exact fit_trans _ x y _ (Nat.le_refl _) gx (flat_good hl hy).1 (union_good hl) (.num h9 hk) (kept_fit hl (kp y hy (by omega) (by omega) (by omega)) (hno y hy).2)
  ·rw [Bool.not_eq_true] at hn
   exact kept_fit hl (List.mem_filter.2 ⟨hx, by unfold keepT; simp [h9, ha, hu, hn]⟩) (hno x hx).2
 by_cases h10 : x.k = 10
 ·by_cases hn : (kindsOf (flatU l)).s = true
  ·obtain ⟨y, hy, hk⟩ := hasK_mem.1 hn
   exact fit_trans _ x y _ (Nat.le_refl _) gx (flat_good hl hy).1 (union_good hl) (.str h10 hk) (kept_fit hl (kp y hy (by omega) (by omega) (by omega)) (hno y hy).2)
  ·rw [Bool.not_eq_true] at hn
   exact kept_fit hl (List.mem_filter.2 ⟨hx, by unfold keepT; simp [h10, ha, hu, hn]⟩) (hno x hx).2
 exact kept_fit hl (kp x hx h1 h9 h10) (hno x hx).2
theorem fit_union {l : List Ty} (hl : ∀ a ∈ l, GdT a) {a : Ty} (ha : a ∈ l) : Fit a (unionT l) :=
 (fit_parts (hl a ha) (union_good hl)).2 fun x hx => flat_fit hl (List.mem_flatten.2 ⟨_, List.mem_map_of_mem ha, hx⟩)
theorem union_fit {l : List Ty} (hl : ∀ a ∈ l, GdT a) {t : Ty} (gt : GdT t) : Fit (unionT l) t ↔ ∀ a ∈ l, Fit a t := by
 constructor
 ·intro h a ha
  exact fit_trans _ a (unionT l) t (Nat.le_refl _) (hl a ha) (union_good hl) gt (fit_union hl ha) h
 ·intro h
  have hk : ∀ x ∈ keptU l, Fit x t := fun x hx => by
   obtain ⟨-, -, a, ha, hxa⟩ := flat_good hl (kept_flat hx)
   exact (fit_parts (hl a ha) gt).1 (h a ha) x hxa
  have hs : ∀ x ∈ sortT (keptU l), Fit x t := fun x hx => hk x ((mem_sortT x _).1 hx)
  unfold unionT
  rcases shut_cases (sortT (keptU l)) with ⟨e, e2⟩ | ⟨x, e, e2⟩ | ⟨hk15, hp, -, -⟩
  ·rw [e2]; exact .never rfl
  ·rw [e2]; exact hs x (by rw [e]; simp)
  ·exact .union hk15 fun x hx => hs x (by rw [hp] at hx; exact hx)
theorem function_fit {K K' : Nat → Prop} {w : World} {s t : Ty} {cs ds : List Value} {b m l2 : Nat} {fuel lo rows : Int} {m1 m2 : Option Nat} {asked : Value} (hr : RepT K w s cs) (hp : RepT K' w t ds) (hvs : s.vs = [] ∧ t.vs = []) (hm : s.ps.length = m + 1) (hm2 : t.ps.length = l2 + 1) (hK : ∀ x, K x → x < w.heap.size ∧ x ≠ b) (hK' : ∀ x, K' x → x < w.heap.size ∧ x ≠ b) (hI : RunI b fuel lo m1 m2 asked rows w w)
  (KF : ∀ p ∈ s.ps, ∀ q ∈ t.ps, FitAt b fuel lo m1 m2 asked rows w K K' p q) (KG : ∀ p ∈ s.ps, ∀ q ∈ t.ps, FitAt b fuel lo m1 m2 asked rows w K' K q p) :
  Calls Tryz.prog 135 #[.pointer (some ⟨b, 0, none⟩), .agg cs.toArray, .agg ds.toArray] w (FitPost b fuel lo m1 m2 asked rows w True (FnF s t)) := by
 have hbl : b < w.heap.size := by obtain ⟨_, _, _, h, _⟩ := hI; exact (Array.getElem?_eq_some_iff.1 h).1
 obtain ⟨w1, g1, g2, HW1, HG1, HG2, hb1, hs1, hx, hy⟩ := box_two w cs ds
 obtain ⟨k, s, n, ps, fs, vs⟩ := s
 obtain ⟨A, c, B, d, C, e, rfl, -, hL, -⟩ := hr.inv
 obtain ⟨k2, s2, n2, ps2, fs2, vs2⟩ := t
 obtain ⟨A2, c2, B2, d2, C2, e2, rfl, -, hM, -⟩ := hp.inv
 obtain ⟨rfl, rfl⟩ : vs = [] ∧ vs2 = [] := hvs
 replace hm : ps.length = m + 1 := hm
 replace hm2 : ps2.length = l2 + 1 := hm2
 obtain ⟨tb, tq, hA, hKb, hat⟩ := hL.at (by omega)
 subst hA
 obtain ⟨sb, sq, hA, hKb2, hat2⟩ := hM.at (by omega)
 subst hA
 have hc1 : ps.length ≤ c ∧ ps.length ≤ 1000000000000000 := by obtain ⟨_, _, r1, -⟩ := hL; exact ⟨r1.le, r1.big⟩
 have hc2 : ps2.length ≤ c2 ∧ ps2.length ≤ 1000000000000000 := by obtain ⟨_, _, r1, -⟩ := hM; exact ⟨r1.le, r1.big⟩
 obtain ⟨es, hes, hrq⟩ := hat m (by omega)
 obtain ⟨es2, hes2, hrp⟩ := hat2 l2 (by omega)
 have hla : ps.getLast? = some (ps[m]'(by omega)) := by rw [List.getLast?_eq_getElem?, show ps.length - 1 = m by omega]; exact List.getElem?_eq_getElem _
 have hlb : ps2.getLast? = some (ps2[l2]'(by omega)) := by rw [List.getLast?_eq_getElem?, show ps2.length - 1 = l2 by omega]; exact List.getElem?_eq_getElem _
 have hF1 := KF _ (List.getElem_mem (show m < ps.length by omega)) _ (List.getElem_mem (show l2 < ps2.length by omega))
 replace KG : ∀ p ∈ ps, ∀ q ∈ ps2, FitAt b fuel lo m1 m2 asked rows w K' K q p := KG
 have hFn : FnF (.mk k s n ps fs []) (.mk k2 s2 n2 ps2 fs2 []) ↔ (m ≤ l2 ∧ (∀ (i : Nat) (p q : Ty), (ps2.take m)[i]? = some p → (ps.take m)[i]? = some q → Fit p q) ∧ Fit (ps[m]'(by omega)) (ps2[l2]'(by omega))) := by
  unfold FnF
  show (ps.length ≤ ps2.length ∧ (∀ (i : Nat) (p q : Ty), i + 1 < ps.length → ps[i]? = some p → ps2[i]? = some q → Fit q p) ∧ ∃ ra rb, ps.getLast? = some ra ∧ ps2.getLast? = some rb ∧ Fit ra rb) ↔ _
  rw [hla, hlb]
  constructor
  ·rintro ⟨h1, h2, ra, rb, h3, h4, h5⟩
   injection h3 with h3
   injection h4 with h4
   refine ⟨by omega, fun i p q hq hp => ?_, by rw [h3, h4]; exact h5⟩
   rw [List.getElem?_take] at hp hq
   split at hp
   ·rename_i hi
    rw [if_pos hi] at hq
    exact h2 i q p (by omega) hp hq
   ·cases hp
  ·rintro ⟨h1, h2, h3⟩
   refine ⟨by omega, fun i p q hi hp hq => h2 i q p ?_ ?_, _, _, rfl, rfl, h3⟩
   ·rw [List.getElem?_take, if_pos (by omega)]; exact hq
   ·rw [List.getElem?_take, if_pos (by omega)]; exact hp
 obtain ⟨PO, hPO⟩ : ∃ PO : Ending → World → Prop, PO = FitPost b fuel lo m1 m2 asked rows w True (FnF (.mk k s n ps fs []) (.mk k2 s2 n2 ps2 fs2 [])) := ⟨_, rfl⟩
 have HYES : Hid (∀ (r : Bool) w', (r = true ↔ (m ≤ l2 ∧ (∀ (i : Nat) (p q : Ty), (ps2.take m)[i]? = some p → (ps.take m)[i]? = some q → Fit p q) ∧ Fit (ps[m]'(by omega)) (ps2[l2]'(by omega)))) → RunI b fuel lo m1 m2 asked rows w w' → PO (.returned (.bool r)) w') := Hd fun r w' h1 h2 => by rw [hPO]; exact .inl ⟨r, rfl, h1.trans hFn.symm, h2⟩
 have HNO : Hid (∀ w', ButG (fun x => x = b) w w' → PO (.panicked [{ v := stopV, recovered := false }]) w') := Hd fun w' h2 => by rw [hPO]; exact .inr ⟨rfl, trivial, h2⟩
 rw [← hPO]
 have hta : (ps.take m).length = m := by rw [List.length_take]; omega
 have htb : (ps2.take m).length = min m ps2.length := List.length_take
 have hEA : m ≤ l2 → ∀ wx, RunI b fuel lo m1 m2 asked rows w wx → Calls Tryz.prog 134 #[.pointer (some ⟨b, 0, none⟩), .slice (some ⟨sb, sq, none⟩) m c2, .slice (some ⟨tb, tq, none⟩) m c] wx (FitPost b fuel lo m1 m2 asked rows wx (ps2.take m ≠ []) (∀ (i : Nat) (p q : Ty), (ps2.take m)[i]? = some p → (ps.take m)[i]? = some q → Fit p q)) := fun hml wx hu => by
  have h := each_fit (w := wx) (c := c2) (c' := c) (la := ps2.take m) (lb := ps.take m) Fit ((hM.but hu.but fun x hx => ⟨(hK' x hx).2, hx⟩).take m) ((hL.but hu.but fun x hx => ⟨(hK x hx).2, hx⟩).take m) (by omega) (fun x hx => ⟨Nat.lt_of_lt_of_le (hK' x hx).1 hu.but.size, (hK' x hx).2⟩) (fun x hx => ⟨Nat.lt_of_lt_of_le (hK x hx).1 hu.but.size, (hK x hx).2⟩) hu.self fun i p q h1 h2 => (KG q (List.mem_of_mem_take (List.mem_of_getElem? h2)) p (List.mem_of_mem_take (List.mem_of_getElem? h1))).from hu.but
  rw [htb, hta, Nat.min_eq_left (by omega)] at h
  exact h
 generalize hpa : ps[m]'(by omega) = pa at hrq hF1 HYES
 generalize hpb : ps2[l2]'(by omega) = pb at hrp hF1 HYES
 obtain ⟨k3, s3, n3, ps3, fs3, vs3⟩ := pa
 obtain ⟨A3, c3, B3, d3, C3, e3, rfl, -⟩ := hrq.inv
 obtain ⟨k4, s4, n4, ps4, fs4, vs4⟩ := pb
 obtain ⟨A4, c4, B4, d4, C4, e4, rfl, -⟩ := hrp.inv
 simp only [cells6T, List.length_nil] at hr hp hx hy HW1 hes hes2 hrq hrp ⊢
 have HS : Hid (∀ wx, ButG (fun x => x = b) w1 wx → (wx.cell? ⟨g1, 0, none⟩ = some (.int .i64 k) ∧ wx.cell? ⟨g1, 1, none⟩ = some (.string s) ∧ wx.cell? ⟨g1, 2, none⟩ = some (.int .i64 n) ∧ wx.cell? ⟨g1, 3, none⟩ = some (.slice (some ⟨tb, tq, none⟩) ps.length c) ∧ wx.cell? ⟨g1, 4, none⟩ = some (.slice B fs.length d) ∧ wx.cell? ⟨g1, 5, none⟩ = some (.slice C 0 e)) ∧ (wx.cell? ⟨g2, 0, none⟩ = some (.int .i64 k2) ∧ wx.cell? ⟨g2, 1, none⟩ = some (.string s2) ∧ wx.cell? ⟨g2, 2, none⟩ = some (.int .i64 n2) ∧ wx.cell? ⟨g2, 3, none⟩ = some (.slice (some ⟨sb, sq, none⟩) ps2.length c2) ∧ wx.cell? ⟨g2, 4, none⟩ = some (.slice B2 fs2.length d2) ∧ wx.cell? ⟨g2, 5, none⟩ = some (.slice C2 0 e2)) ∧ (wx.cell? ⟨tb, tq + m * 6, none⟩ = some (.int .i64 k3) ∧ wx.cell? ⟨tb, tq + m * 6 + 1, none⟩ = some (.string s3) ∧ wx.cell? ⟨tb, tq + m * 6 + 2, none⟩ = some (.int .i64 n3) ∧ wx.cell? ⟨tb, tq + m * 6 + 3, none⟩ = some (.slice A3 ps3.length c3) ∧ wx.cell? ⟨tb, tq + m * 6 + 4, none⟩ = some (.slice B3 fs3.length d3) ∧ wx.cell? ⟨tb, tq + m * 6 + 5, none⟩ = some (.slice C3 vs3.length e3)) ∧ (wx.cell? ⟨sb, sq + l2 * 6, none⟩ = some (.int .i64 k4) ∧ wx.cell? ⟨sb, sq + l2 * 6 + 1, none⟩ = some (.string s4) ∧ wx.cell? ⟨sb, sq + l2 * 6 + 2, none⟩ = some (.int .i64 n4) ∧ wx.cell? ⟨sb, sq + l2 * 6 + 3, none⟩ = some (.slice A4 ps4.length c4) ∧ wx.cell? ⟨sb, sq + l2 * 6 + 4, none⟩ = some (.slice B4 fs4.length d4) ∧ wx.cell? ⟨sb, sq + l2 * 6 + 5, none⟩ = some (.slice C4 vs4.length e4))) := Hd fun wx hx3 => by
  have hbx : ButG (fun x => x = b) w wx := (ButG.of_below hb1).same hx3
  obtain ⟨x0, x1, x2, x3, x4, x5⟩ := cz6 ((hx3.block g1 (Array.getElem?_eq_some_iff.1 hx).1 (by omega)).trans hx)
  obtain ⟨y0, y1, y2, y3, y4, y5⟩ := cz6 ((hx3.block g2 (Array.getElem?_eq_some_iff.1 hy).1 (by omega)).trans hy)
  have h1 : ∀ j v, [.int .i64 k3, .string s3, .int .i64 n3, .slice A3 ps3.length c3, .slice B3 fs3.length d3, .slice C3 vs3.length e3][j]? = some v → wx.cell? ⟨tb, tq + m * 6 + j, none⟩ = some v := fun j v h => hbx.cell (hK tb hKb).2 (hes j v h)
  have h2 : ∀ j v, [.int .i64 k4, .string s4, .int .i64 n4, .slice A4 ps4.length c4, .slice B4 fs4.length d4, .slice C4 vs4.length e4][j]? = some v → wx.cell? ⟨sb, sq + l2 * 6 + j, none⟩ = some v := fun j v h => hbx.cell (hK' sb hKb2).2 (hes2 j v h)
  exact ⟨⟨x0, x1, x2, x3, x4, x5⟩, ⟨y0, y1, y2, y3, y4, y5⟩, ⟨h1 0 _ rfl, h1 1 _ rfl, h1 2 _ rfl, h1 3 _ rfl, h1 4 _ rfl, h1 5 _ rfl⟩, h2 0 _ rfl, h2 1 _ rfl, h2 2 _ rfl, h2 3 _ rfl, h2 4 _ rfl, h2 5 _ rfl⟩
 have HFL : Hid (∀ wx, RunI b fuel lo m1 m2 asked rows w wx → Calls Tryz.prog 28 #[.pointer (some ⟨b, 0, none⟩), .agg [.int .i64 k3, .string s3, .int .i64 n3, .slice A3 ps3.length c3, .slice B3 fs3.length d3, .slice C3 vs3.length e3].toArray, .agg [.int .i64 k4, .string s4, .int .i64 n4, .slice A4 ps4.length c4, .slice B4 fs4.length d4, .slice C4 vs4.length e4].toArray] wx (FitPost b fuel lo m1 m2 asked rows wx True (Fit (.mk k3 s3 n3 ps3 fs3 vs3) (.mk k4 s4 n4 ps4 fs4 vs4)))) := Hd fun wx hu => hF1 wx _ _ hu (hrq.but hu.but fun x hx => ⟨(hK x hx).2, hx⟩) (hrp.but hu.but fun x hx => ⟨(hK' x hx).2, hx⟩)
 have HEA := Hd hEA
 have HB1 := Hd (ButG.of_below (O := fun x => x = b) hb1)
 have HI1 := Hd (hI.below hb1)
 have HNE : Hid (b < w1.heap.size) := Hd (by omega)
 replace HW1 := Hd HW1
 replace HG1 := Hd HG1
 replace HG2 := Hd HG2
 have wl1 : IntKind.i64.wrap ((ps.length : Int) - 1) = (m : Int) := by rw [show ((ps.length : Int) - 1) = (m : Int) by omega]; exact wrap_kd (by omega) (by omega)
 have wl2 : IntKind.i64.wrap ((ps2.length : Int) - 1) = (l2 : Int) := by rw [show ((ps2.length : Int) - 1) = (l2 : Int) by omega]; exact wrap_kd (by omega) (by omega)
 have HBD : Hid (ButG (fun x => x = b) w1 w1.drew) := Hd (ButG.of_below (Below.refl _ _).drew)
 have HBE : Hid (ButG (fun x => x = b) w1 w1.drew.drew) := Hd (ButG.of_below ((Below.refl _ _).drew.drew))
 have i1 : (m : Int) < (ps.length : Int) := by omega
 have i2 : (l2 : Int) < (ps2.length : Int) := by omega
 have i3 : m < ps.length := by omega
 have i4 : l2 < ps2.length := by omega
 have i5 : m ≤ c := by omega
 have i7 : (m : Int) ≤ (c : Int) := by omega
 have z0 : (0 : Int) ≤ (m : Int) := by omega
 have z1 : (0 : Int) ≤ (l2 : Int) := by omega
 have i6 : m ≤ l2 → m ≤ c2 := by omega
 clear hr hp hm hm2 hK hK' hI KF KG hbl hb1 hs1 hx hy hL hM hKb hat hKb2 hat2 hc1 hc2 hes hrq hes2 hrp hla hlb hF1 hFn hPO hta htb hEA hpa hpb
 go_enter Tryz.func135, Tryz.ntmps135
 go_upto_region 1 with fail
 rw [HW1.out, HG1.out, HG2.out]
 refine wp_region_held_drew (S := (fun w' => (w'.cell? ⟨g1, 0, none⟩ = some (.int .i64 k) ∧ w'.cell? ⟨g1, 1, none⟩ = some (.string s) ∧ w'.cell? ⟨g1, 2, none⟩ = some (.int .i64 n) ∧ w'.cell? ⟨g1, 3, none⟩ = some (.slice (some ⟨tb, tq, none⟩) ps.length c) ∧ w'.cell? ⟨g1, 4, none⟩ = some (.slice B fs.length d) ∧ w'.cell? ⟨g1, 5, none⟩ = some (.slice C 0 e)) ∧ (w'.cell? ⟨g2, 0, none⟩ = some (.int .i64 k2) ∧ w'.cell? ⟨g2, 1, none⟩ = some (.string s2) ∧ w'.cell? ⟨g2, 2, none⟩ = some (.int .i64 n2) ∧ w'.cell? ⟨g2, 3, none⟩ = some (.slice (some ⟨sb, sq, none⟩) ps2.length c2) ∧ w'.cell? ⟨g2, 4, none⟩ = some (.slice B2 fs2.length d2) ∧ w'.cell? ⟨g2, 5, none⟩ = some (.slice C2 0 e2)) ∧ (w'.cell? ⟨tb, tq + m * 6, none⟩ = some (.int .i64 k3) ∧ w'.cell? ⟨tb, tq + m * 6 + 1, none⟩ = some (.string s3) ∧ w'.cell? ⟨tb, tq + m * 6 + 2, none⟩ = some (.int .i64 n3) ∧ w'.cell? ⟨tb, tq + m * 6 + 3, none⟩ = some (.slice A3 ps3.length c3) ∧ w'.cell? ⟨tb, tq + m * 6 + 4, none⟩ = some (.slice B3 fs3.length d3) ∧ w'.cell? ⟨tb, tq + m * 6 + 5, none⟩ = some (.slice C3 vs3.length e3)) ∧ (w'.cell? ⟨sb, sq + l2 * 6, none⟩ = some (.int .i64 k4) ∧ w'.cell? ⟨sb, sq + l2 * 6 + 1, none⟩ = some (.string s4) ∧ w'.cell? ⟨sb, sq + l2 * 6 + 2, none⟩ = some (.int .i64 n4) ∧ w'.cell? ⟨sb, sq + l2 * 6 + 3, none⟩ = some (.slice A4 ps4.length c4) ∧ w'.cell? ⟨sb, sq + l2 * 6 + 4, none⟩ = some (.slice B4 fs4.length d4) ∧ w'.cell? ⟨sb, sq + l2 * 6 + 5, none⟩ = some (.slice C4 vs4.length e4)))) (by kernel_rfl) (HS.out _ HBD.out) (fun hHeld => ?_)
 refine Plan.start [0, 1, 2, 3, 4, 5, 6, 7, 8, 9] ?_
 iterate 10 (refine Plan.tk (so rfl) hHeld ?_; try simp only [Act.put, pz1, pz2, pz3])
 refine Plan.done ?_
 refine wpAnyH_done (by kernel_rfl) ?_ _
 clear hHeld
 obtain ⟨⟨x0, x1, x2, x3, x4, x5⟩, ⟨y0, y1, y2, y3, y4, y5⟩, -⟩ := HS.out _ HBD.out
 by_cases hml : m ≤ l2
 ·have t1 : decide ((l2 : Int) < (m : Int)) = false := by simp; omega
  have t2 : ¬ ((l2 : Int) < (m : Int)) := by omega
  have i8 : m ≤ c2 := i6 hml
  have i9 : (m : Int) ≤ (c2 : Int) := by omega
  have KE := Hd (HEA.out hml w1.drew.drew (HI1.out.below (Below.refl _ _).drew.drew))
  go_upto_region 4 with fail
  clear x0 x1 x2 x3 x4 x5 y0 y1 y2 y3 y4 y5
  have HML := Hd hml
  refine wp_region_held_drew (S := (fun w' => (w'.cell? ⟨g1, 0, none⟩ = some (.int .i64 k) ∧ w'.cell? ⟨g1, 1, none⟩ = some (.string s) ∧ w'.cell? ⟨g1, 2, none⟩ = some (.int .i64 n) ∧ w'.cell? ⟨g1, 3, none⟩ = some (.slice (some ⟨tb, tq, none⟩) ps.length c) ∧ w'.cell? ⟨g1, 4, none⟩ = some (.slice B fs.length d) ∧ w'.cell? ⟨g1, 5, none⟩ = some (.slice C 0 e)) ∧ (w'.cell? ⟨g2, 0, none⟩ = some (.int .i64 k2) ∧ w'.cell? ⟨g2, 1, none⟩ = some (.string s2) ∧ w'.cell? ⟨g2, 2, none⟩ = some (.int .i64 n2) ∧ w'.cell? ⟨g2, 3, none⟩ = some (.slice (some ⟨sb, sq, none⟩) ps2.length c2) ∧ w'.cell? ⟨g2, 4, none⟩ = some (.slice B2 fs2.length d2) ∧ w'.cell? ⟨g2, 5, none⟩ = some (.slice C2 0 e2)) ∧ (w'.cell? ⟨tb, tq + m * 6, none⟩ = some (.int .i64 k3) ∧ w'.cell? ⟨tb, tq + m * 6 + 1, none⟩ = some (.string s3) ∧ w'.cell? ⟨tb, tq + m * 6 + 2, none⟩ = some (.int .i64 n3) ∧ w'.cell? ⟨tb, tq + m * 6 + 3, none⟩ = some (.slice A3 ps3.length c3) ∧ w'.cell? ⟨tb, tq + m * 6 + 4, none⟩ = some (.slice B3 fs3.length d3) ∧ w'.cell? ⟨tb, tq + m * 6 + 5, none⟩ = some (.slice C3 vs3.length e3)) ∧ (w'.cell? ⟨sb, sq + l2 * 6, none⟩ = some (.int .i64 k4) ∧ w'.cell? ⟨sb, sq + l2 * 6 + 1, none⟩ = some (.string s4) ∧ w'.cell? ⟨sb, sq + l2 * 6 + 2, none⟩ = some (.int .i64 n4) ∧ w'.cell? ⟨sb, sq + l2 * 6 + 3, none⟩ = some (.slice A4 ps4.length c4) ∧ w'.cell? ⟨sb, sq + l2 * 6 + 4, none⟩ = some (.slice B4 fs4.length d4) ∧ w'.cell? ⟨sb, sq + l2 * 6 + 5, none⟩ = some (.slice C4 vs4.length e4)))) (by kernel_rfl) (HS.out _ HBE.out) (fun hHeld => ?_)
  refine Plan.start [0, 1, 2, 3, 4, 5, 6, 7, 8] ?_
  iterate 9 (refine Plan.tk (so rfl) hHeld ?_; try simp only [Act.put, pz1, pz2, pz3])
  refine Plan.done ?_
  refine wpAnyH_ready (rs := [9]) (by kernel_rfl) (by simp) ?_
  refine AllReadyH.cons (sd (some 41) rfl) (fun Kx hK => ?_) AllReadyH.nil
  go_simp
  refine KE.out.mono ?_
  rintro e5 w5 (⟨r, rfl, hr5, hu5⟩ | ⟨rfl, -, hb5⟩)
  ·have HU5 : Hid (RunI b fuel lo m1 m2 asked rows w w5) := Hd (RunI.trans ((show ButG (fun x => x = b) w w1 by obtain ⟨_, _, _, _, h⟩ := HI1.out; exact h).same HBE.out) hu5 (Int.le_refl _))
   have HR5 := Hd hr5
   have HB5 : Hid (ButG (fun x => x = b) w1 w5) := Hd (HBE.out.same hu5.but)
   clear hr5 hu5 KE
   go_wp2_with fail
   refine hK.out _ _ (HS.out _ HB5.out) (fun hHeld => ?_)
   clear hK Kx
   try simp only [Act.put, pz1, pz2, pz3]
   refine Plan.start [10] ?_
   refine Plan.tk (so rfl) hHeld ?_
   try simp only [Act.put, pz1, pz2, pz3]
   refine Plan.done ?_
   cases r with
   | false =>
    refine Plan.start [11, 12, 13, 14, 15, 16, 17, 18, 19, 20, 21, 22] ?_
    iterate 12 (refine Plan.take (v := undef) (so rfl) (by kernel_rfl) (by kernel_rfl) (by kernel_rfl) (fun _ _ _ h => h) (Or.inr ⟨by rfl, rfl⟩) hHeld ?_; try simp only [Act.put, pz1, pz2, pz3])
    refine Plan.done ?_
    refine Plan.start [23, 24] ?_
    iterate 2 (refine Plan.tk (so rfl) hHeld ?_; try simp only [Act.put, pz1, pz2, pz3])
    refine Plan.done ?_
    refine wpAnyH_done (by kernel_rfl) ?_ _
    clear hHeld
    go_wp2_with fail
    exact HYES.out _ _ (iff_of_false (by decide) fun h => absurd (HR5.out.2 h.2.1) (by decide)) HU5.out
   | true =>
    have KL := Hd (HFL.out w5 HU5.out)
    refine Plan.start [11, 12, 13, 14, 15, 16, 17, 18, 19, 20, 21] ?_
    iterate 11 (refine Plan.tk (so rfl) hHeld ?_; try simp only [Act.put, pz1, pz2, pz3])
    refine Plan.done ?_
    refine wpAnyH_ready (rs := [22]) (by kernel_rfl) (by simp) ?_
    refine AllReadyH.cons (sd (some 54) rfl) (fun Kx hK => ?_) AllReadyH.nil
    go_simp
    refine KL.out.mono ?_
    rintro e6 w6 (⟨r, rfl, hr6, hu6⟩ | ⟨rfl, -, hb6⟩)
    ·have HU6 : Hid (RunI b fuel lo m1 m2 asked rows w w6) := Hd (RunI.trans HU5.out.but hu6 (Int.le_refl _))
     have HR6 := Hd hr6
     have HB6 : Hid (ButG (fun x => x = b) w1 w6) := Hd (HB5.out.same hu6.but)
     clear hr6 hu6 KL
     go_wp2_with fail
     refine hK.out _ _ (HS.out _ HB6.out) (fun hHeld => ?_)
     clear hK Kx
     try simp only [Act.put, pz1, pz2, pz3]
     refine Plan.start [23, 24] ?_
     iterate 2 (refine Plan.tk (so rfl) hHeld ?_; try simp only [Act.put, pz1, pz2, pz3])
     refine Plan.done ?_
     refine wpAnyH_done (by kernel_rfl) ?_ _
     clear hHeld
     go_wp2_with fail
     exact HYES.out _ _ (HR6.out.trans ⟨fun h => ⟨HML.out, HR5.out.1 (by trivial), h⟩, fun h => h.2.2⟩) HU6.out
    ·have HFIN : Hid (PO (.panicked [{ v := stopV, recovered := false }]) w6) := Hd (HNO.out _ (HU5.out.but.same hb6))
     clear hb6
     go_wp2_with fail
     first | exact HFIN.out | (simp only [bodyPost]; exact ⟨trivial, HFIN.out⟩)
  ·have HFIN : Hid (PO (.panicked [{ v := stopV, recovered := false }]) w5) := Hd (HNO.out _ (((show ButG (fun x => x = b) w w1 by obtain ⟨_, _, _, _, h⟩ := HI1.out; exact h).same HBE.out).same hb5))
   clear hb5
   go_wp2_with fail
   first | exact HFIN.out | (simp only [bodyPost]; exact ⟨trivial, HFIN.out⟩)
 ·have t1 : decide ((l2 : Int) < (m : Int)) = true := by simp; omega
  go_wp2_with fail
  exact HYES.out _ _ (iff_of_false (by decide) fun h => hml h.1) (HI1.out.below (Below.refl _ _).drew)
def ObOne (s : Ty) (f : ByteArray × Int × Ty) : Prop := ∃ g ∈ s.fs, g.1 = f.1 ∧ (f.2.1 % 2 = 0 → g.2.1 % 2 = 0) ∧ Fit g.2.2 f.2.2 ∧ (f.2.1 / 2 % 2 = 1 → g.2.1 / 2 % 2 = 1 ∧ Fit f.2.2 g.2.2)
theorem bits_12 {f : Int} (h : 0 ≤ f ∧ f ≤ 3) : (bits .and .i64 f 1 = 0 ∧ f % 2 = 0 ∨ bits .and .i64 f 1 = 1 ∧ f % 2 = 1) ∧ (bits .and .i64 f 2 = 0 ∧ f / 2 % 2 = 0 ∨ bits .and .i64 f 2 = 2 ∧ f / 2 % 2 = 1) := by
 have h4 : f = 0 ∨ f = 1 ∨ f = 2 ∨ f = 3 := by omega
 rcases h4 with rfl | rfl | rfl | rfl <;> decide
theorem obOne_none {s : Ty} {f : ByteArray × Int × Ty} (h : s.fs.find? (fun g => decide (g.1 = f.1)) = none) : ¬ ObOne s f := fun ⟨g, hg, he, _⟩ => by
 have := List.find?_eq_none.1 h g hg
 simp [he] at this
theorem obOne_some {s : Ty} {f g : ByteArray × Int × Ty} (hun : ∀ g ∈ s.fs, ∀ g' ∈ s.fs, g.1 = g'.1 → g = g') (h : s.fs.find? (fun g => decide (g.1 = f.1)) = some g) : ObOne s f ↔ ((f.2.1 % 2 = 0 → g.2.1 % 2 = 0) ∧ Fit g.2.2 f.2.2 ∧ (f.2.1 / 2 % 2 = 1 → g.2.1 / 2 % 2 = 1 ∧ Fit f.2.2 g.2.2)) := by
 have h1 := List.mem_of_find?_eq_some h
 have h2 : g.1 = f.1 := by simpa using List.find?_some h
 constructor
 ·rintro ⟨g', hg, he, hx⟩
  rw [hun g h1 g' hg (h2.trans he.symm)]
  exact hx
 ·exact fun hx => ⟨g, h1, h2, hx⟩
theorem object_fit {K K' : Nat → Prop} {w : World} {s t : Ty} {cs ds : List Value} {b : Nat} {fuel lo rows : Int} {m1 m2 : Option Nat} {asked : Value} (hr : RepT K w s cs) (hp : RepT K' w t ds) (hun : ∀ g ∈ s.fs, ∀ g' ∈ s.fs, g.1 = g'.1 → g = g') (hfs : ∀ g ∈ s.fs, 0 ≤ g.2.1 ∧ g.2.1 ≤ 3) (hft : ∀ f ∈ t.fs, 0 ≤ f.2.1 ∧ f.2.1 ≤ 3) (hK : ∀ x, K x → x < w.heap.size ∧ x ≠ b) (hK' : ∀ x, K' x → x < w.heap.size ∧ x ≠ b) (hI : RunI b fuel lo m1 m2 asked rows w w)
  (KF : ∀ g ∈ s.fs, ∀ f ∈ t.fs, FitAt b fuel lo m1 m2 asked rows w K K' g.2.2 f.2.2) (KG : ∀ g ∈ s.fs, ∀ f ∈ t.fs, FitAt b fuel lo m1 m2 asked rows w K' K f.2.2 g.2.2) :
  Calls Tryz.prog 136 #[.pointer (some ⟨b, 0, none⟩), .agg cs.toArray, .agg ds.toArray] w (FitPost b fuel lo m1 m2 asked rows w (t.fs ≠ []) (ObF s t)) := by
 have hbl : b < w.heap.size := by obtain ⟨_, _, _, h, _⟩ := hI; exact (Array.getElem?_eq_some_iff.1 h).1
 obtain ⟨w1, g1, g2, HW1, HG1, HG2, hb1, hs1, hx, hy⟩ := box_two w cs ds
 have HFO : Hid (∀ wx name, RunI b fuel lo m1 m2 asked rows w wx → Calls Tryz.prog 167 #[.agg cs.toArray, .string name] wx (FindPost K wx (s.fs.find? fun f => decide (f.1 = name)))) := Hd fun wx name hu => fieldof_any (hr.but hu.but fun x hx => ⟨(hK x hx).2, hx⟩) name
 have HON := Hd fun (f : ByteArray × Int × Ty) h => obOne_none (s := s) (f := f) h
 have HOS := Hd fun (f g : ByteArray × Int × Ty) h => obOne_some (f := f) (g := g) hun h
 have HFS := Hd hfs
 have HKF := Hd KF
 have HKG := Hd KG
 obtain ⟨PO, hPO⟩ : ∃ PO : Ending → World → Prop, PO = FitPost b fuel lo m1 m2 asked rows w (t.fs ≠ []) (ObF s t) := ⟨_, rfl⟩
 have HYES : Hid (∀ (r : Bool) w', (r = true ↔ ∀ f ∈ t.fs, ObOne s f) → RunI b fuel lo m1 m2 asked rows w w' → PO (.returned (.bool r)) w') := Hd fun r w' h1 h2 => by rw [hPO]; exact .inl ⟨r, rfl, h1, h2⟩
 have HNO : Hid (∀ w', t.fs ≠ [] → ButG (fun x => x = b) w w' → PO (.panicked [{ v := stopV, recovered := false }]) w') := Hd fun w' h1 h2 => by rw [hPO]; exact .inr ⟨rfl, h1, h2⟩
 rw [← hPO]
 obtain ⟨sv, hsv⟩ : ∃ x, x = s := ⟨_, rfl⟩
 rw [← hsv] at HFO HON HOS HFS HKF HKG HYES
 clear hun hfs KF KG hPO hsv
 obtain ⟨k, s, n, ps, fs, vs⟩ := s
 obtain ⟨A, c, B, d, C, e, rfl, -⟩ := hr.inv
 obtain ⟨k2, s2, n2, ps2, fs2, vs2⟩ := t
 obtain ⟨A2, c2, B2, d2, C2, e2, rfl, -, -, hF, -⟩ := hp.inv
 simp only [cells6T] at hr hp hx hy HW1 HFO ⊢
 have HX : Hid (∀ wx, ButG (fun x => x = b) w1 wx → wx.cell? ⟨g1, 0, none⟩ = some (.int .i64 k) ∧ wx.cell? ⟨g1, 1, none⟩ = some (.string s) ∧ wx.cell? ⟨g1, 2, none⟩ = some (.int .i64 n) ∧ wx.cell? ⟨g1, 3, none⟩ = some (.slice A ps.length c) ∧ wx.cell? ⟨g1, 4, none⟩ = some (.slice B fs.length d) ∧ wx.cell? ⟨g1, 5, none⟩ = some (.slice C vs.length e)) := Hd fun wx hx3 => cz6 ((hx3.block g1 (Array.getElem?_eq_some_iff.1 hx).1 (by omega)).trans hx)
 have HY4 : w1.cell? ⟨g2, 4, none⟩ = some (.slice B2 fs2.length d2) := (cz6 hy).2.2.2.2.1
 have HF := Hd hF
 have HFT : Hid (∀ f ∈ fs2, 0 ≤ f.2.1 ∧ f.2.1 ≤ 3) := Hd hft
 have HLN : Hid (fs2.length ≤ 1000000000000000) := Hd (by obtain ⟨_, _, r1, -⟩ := hF; exact r1.big)
 have HK := Hd hK
 have HK' := Hd hK'
 have HB1 := Hd (ButG.of_below (O := fun x => x = b) hb1)
 have HI1 := Hd (hI.below hb1)
 replace HW1 := Hd HW1
 replace HG1 := Hd HG1
 replace HG2 := Hd HG2
 replace HKF : Hid (∀ g ∈ sv.fs, ∀ f ∈ fs2, FitAt b fuel lo m1 m2 asked rows w K K' g.2.2 f.2.2) := HKF
 replace HKG : Hid (∀ g ∈ sv.fs, ∀ f ∈ fs2, FitAt b fuel lo m1 m2 asked rows w K' K f.2.2 g.2.2) := HKG
 replace HYES : Hid (∀ (r : Bool) w', (r = true ↔ ∀ f ∈ fs2, ObOne sv f) → RunI b fuel lo m1 m2 asked rows w w' → PO (.returned (.bool r)) w') := HYES
 replace HNO : Hid (∀ w', fs2 ≠ [] → ButG (fun x => x = b) w w' → PO (.panicked [{ v := stopV, recovered := false }]) w') := HNO
 clear hr hp hft hK hK' hI hbl hb1 hs1 hx hy hF
 go_enter Tryz.func136, Tryz.ntmps136
 go_upto_region 1 with fail
 rw [HW1.out, HG1.out, HG2.out]
 go_wp2_with fail
 clear HY4
 go_loopw [10, 14] (fun u v wr => ∃ i : Nat, i ≤ fs2.length ∧ v = .int .i64 i ∧ RunI b fuel lo m1 m2 asked rows w1 wr ∧ ∀ f ∈ fs2.take i, ObOne sv f) (fun _ v _ => fs2.length - (intOf v).toNat)
 case atStart => exact ⟨0, Nat.zero_le _, rfl, HI1.out.self, fun p hp => absurd hp (by simp)⟩
 case round =>
  obtain ⟨i, hi, rfl, hu, hno⟩ := hrel
  have hln := HLN.out
  have HU := Hd (RunI.trans HB1.out hu (Int.le_refl _))
  by_cases hin : i < fs2.length
  ·have t1 : decide ((i : Int) < (fs2.length : Int)) = true := by simp; omega
   have wr2 : wrap64 ((i : Int) + 1) = ((i + 1 : Nat) : Int) := wrap_one (by omega)
   have HMI := Hd (measI hin)
   have HIn : Hid (i + 1 ≤ fs2.length) := Hd hin
   have hbw : ButG (fun x => x = b) w1 wr := hu.but
   obtain ⟨tb, tq, hA, hKb, hat⟩ := HF.out.at (Nat.lt_of_le_of_lt (Nat.zero_le i) hin)
   subst hA
   obtain ⟨hc0, hc1, -, es, hes, hrq⟩ := hat i hin
   have hmem := List.getElem_mem hin
   have HNE : Hid (fs2 ≠ []) := Hd (by intro e; rw [e] at hin; simp at hin)
   have HNX : Hid (ObOne sv (fs2[i]'hin) → ∀ f ∈ fs2.take (i + 1), ObOne sv f) := Hd fun h => mem_take_next hin hno h
   have HST : Hid (¬ ObOne sv (fs2[i]'hin) → ¬ ∀ f ∈ fs2, ObOne sv f) := Hd fun h hall => h (hall _ hmem)
   have HFF := Hd (HFT.out _ hmem)
   have HKF1 := Hd fun g hg => HKF.out g hg _ hmem
   have HKG1 := Hd fun g hg => HKG.out g hg _ hmem
   have i1 : (0 : Int) ≤ (i : Int) := by omega
   have i2 : (i : Int) < (fs2.length : Int) := by omega
   generalize fs2[i]'hin = fi at hc0 hc1 hrq HNX HST HFF HKF1 HKG1
   obtain ⟨nf, ff, tf⟩ := fi
   obtain ⟨k3, s3, n3, ps3, fs3, vs3⟩ := tf
   obtain ⟨A3, c3, B3, d3, C3, e3, rfl, -⟩ := hrq.inv
   simp only [cells6T] at hes hrq
   dsimp only at hc0 hc1 HFF HKF1 HKG1
   have hbx : ButG (fun x => x = b) w wr := HB1.out.same hbw
   have h1 : ∀ j v, [.int .i64 k3, .string s3, .int .i64 n3, .slice A3 ps3.length c3, .slice B3 fs3.length d3, .slice C3 vs3.length e3][j]? = some v → wr.cell? ⟨tb, tq + i * 8 + 2 + j, none⟩ = some v := fun j v h => hbx.cell (HK'.out tb hKb).2 (hes j v h)
   have y0 := hbx.cell (p := ⟨tb, tq + i * 8, none⟩) (HK'.out tb hKb).2 hc0
   have y1 := hbx.cell (p := ⟨tb, tq + i * 8 + 1, none⟩) (HK'.out tb hKb).2 hc1
   obtain ⟨y2, y3, y4, y5, y6, y7⟩ : (wr.cell? ⟨tb, tq + i * 8 + 2, none⟩ = some (.int .i64 k3) ∧ wr.cell? ⟨tb, tq + i * 8 + 3, none⟩ = some (.string s3) ∧ wr.cell? ⟨tb, tq + i * 8 + 4, none⟩ = some (.int .i64 n3) ∧ wr.cell? ⟨tb, tq + i * 8 + 5, none⟩ = some (.slice A3 ps3.length c3) ∧ wr.cell? ⟨tb, tq + i * 8 + 6, none⟩ = some (.slice B3 fs3.length d3) ∧ wr.cell? ⟨tb, tq + i * 8 + 7, none⟩ = some (.slice C3 vs3.length e3)) := ⟨h1 0 _ rfl, h1 1 _ rfl, h1 2 _ rfl, h1 3 _ rfl, h1 4 _ rfl, h1 5 _ rfl⟩
   have hRQ := hrq.but hbx fun x hx => ⟨(HK'.out x hx).2, hx⟩
   obtain ⟨w2, hw2⟩ : ∃ x, x = wr.alloc (.cells #[.string nf, .int .i64 ff, .int .i64 k3, .string s3, .int .i64 n3, .slice A3 ps3.length c3, .slice B3 fs3.length d3, .slice C3 vs3.length e3] 57) := ⟨_, rfl⟩
   obtain ⟨g3, hg3⟩ : ∃ x, x = wr.heap.size := ⟨_, rfl⟩
   have hb2 : Below wr.heap.size wr w2 := by rw [hw2]; exact (Below.refl _ _).alloc (Nat.le_refl _) _
   have hx2 : w2.heap[g3]? = some (.cells #[.string nf, .int .i64 ff, .int .i64 k3, .string s3, .int .i64 n3, .slice A3 ps3.length c3, .slice B3 fs3.length d3, .slice C3 vs3.length e3] 57 (0, 0)) := by rw [hw2, hg3]; exact heap_alloc_new wr _
   have hu2 := HU.out.below hb2
   have HU2 := Hd hu2
   have HB12 : Hid (ButG (fun x => x = b) w1 w2) := Hd (hbw.low (hb2.mono hbw.size))
   have HBN : Hid (b < g3) := Hd (by obtain ⟨_, _, _, h, _⟩ := HU.out; have h1 := (Array.getElem?_eq_some_iff.1 h).1; omega)
   have HRQ := Hd (hRQ.later hb2)
   obtain ⟨x0, x1, x2, x3, x4, x5⟩ := HX.out w2 (hbw.low (hb2.mono hbw.size))
   have KC := Hd (HFO.out w2 nf hu2)
   have HX2 := Hd hx2
   have HW2 := Hd hw2
   have HG3 := Hd hg3
   clear hi hu hno hln hat hmem hc0 hc1 hes hrq h1 hbx hbw hKb hRQ hw2 hg3 hb2 hx2 hu2
   go_upto_region 4 with fail
   rw [← HW2.out, ← HG3.out]
   clear y0 y1 y2 y3 y4 y5 y6 y7
   obtain ⟨y0, y1, y2, y3, y4, y5, y6, y7⟩ := cz8 HX2.out
   go_wp2_with fail
   refine KC.out.mono ?_
   intro e5 w5 h5
   unfold FindPost at h5
   obtain ⟨h5, hb5⟩ := h5
   have HU5 := Hd (HU2.out.below hb5)
   have HB16 : Hid (ButG (fun x => x = b) w1 w5) := Hd (HB12.out.low (hb5.mono HB12.out.size))
   have HX5 := Hd (box_up hb5 (Array.getElem?_eq_some_iff.1 HX2.out).1 HX2.out)
   have HRQ5 := Hd (HRQ.out.later hb5)
   have HB25 := Hd hb5
   clear hb5 x0 x1 x2 x3 x4 x5 y0 y1 y2 y3 y4 y5 y6 y7 KC
   generalize hfd : (sv.fs.find? fun f => decide (f.1 = nf)) = fd at h5
   rcases fd with _ | gf
   ·obtain rfl := h5
    have HFIN : Hid (PO (.returned (.bool false)) (w5.alloc (.cells #[.string ⟨#[]⟩, .int .i64 0, .int .i64 0, .string ⟨#[]⟩, .int .i64 0, .slice none 0 0, .slice none 0 0, .slice none 0 0] 57))) := Hd (HYES.out _ _ (iff_of_false (by decide) (HST.out (HON.out _ hfd))) (HU5.out.below ((Below.refl _ _).alloc (Nat.le_refl _) _)))
    clear hfd
    obtain ⟨y0, y1, y2, y3, y4, y5, y6, y7⟩ := cz8 HX5.out
    go_wp2_with fail
    exact HFIN.out
   ·obtain ⟨gs, rfl, hrg⟩ := h5
    have HMG := Hd (List.mem_of_find?_eq_some hfd)
    obtain ⟨ng, fg, tg⟩ := gf
    obtain ⟨k4, s4, n4, ps4, fs4, vs4⟩ := tg
    obtain ⟨A4, c4, B4, d4, C4, e4, rfl, -⟩ := hrg.inv
    simp only [cells6T] at hrg ⊢
    try dsimp only
    replace hrg := hrg.later HB25.out
    obtain ⟨w6, hw6⟩ : ∃ x, x = w5.alloc (.cells #[.string ng, .int .i64 fg, .int .i64 k4, .string s4, .int .i64 n4, .slice A4 ps4.length c4, .slice B4 fs4.length d4, .slice C4 vs4.length e4] 57) := ⟨_, rfl⟩
    obtain ⟨g4, hg4⟩ : ∃ x, x = w5.heap.size := ⟨_, rfl⟩
    have hb6 : Below w5.heap.size w5 w6 := by rw [hw6]; exact (Below.refl _ _).alloc (Nat.le_refl _) _
    have HX6 := Hd (box_up hb6 (Array.getElem?_eq_some_iff.1 HX5.out).1 HX5.out)
    have HY6 : Hid (w6.heap[g4]? = some (.cells #[.string ng, .int .i64 fg, .int .i64 k4, .string s4, .int .i64 n4, .slice A4 ps4.length c4, .slice B4 fs4.length d4, .slice C4 vs4.length e4] 57 (0, 0))) := Hd (by rw [hw6, hg4]; exact heap_alloc_new w5 _)
    have HU6 := Hd (HU5.out.below hb6)
    have HRG := Hd hrg
    have HB56 : Hid (ButG (fun x => x = b) w5 w6) := Hd (ButG.of_below hb6)
    have HBT := Hd (bits_12 HFF.out)
    have HBG := Hd (bits_12 (HFS.out _ HMG.out))
    have HNB : Hid (g3 ≠ b ∧ g4 ≠ b) := Hd (by obtain ⟨_, _, _, h, _⟩ := HU5.out; have h1 := (Array.getElem?_eq_some_iff.1 h).1; have h2 := HBN.out; omega)
    have KF1 := Hd (HKF1.out _ HMG.out w6 _ _ HU6.out (hrg.but (HB56.out) fun x hx => ⟨(HK.out x hx).2, hx⟩) (HRQ5.out.later hb6))
    have HKGs : Hid (∀ wx, RunI b fuel lo m1 m2 asked rows w wx → RepT K' wx (.mk k3 s3 n3 ps3 fs3 vs3) [.int .i64 k3, .string s3, .int .i64 n3, .slice A3 ps3.length c3, .slice B3 fs3.length d3, .slice C3 vs3.length e3] → RepT K wx (.mk k4 s4 n4 ps4 fs4 vs4) [.int .i64 k4, .string s4, .int .i64 n4, .slice A4 ps4.length c4, .slice B4 fs4.length d4, .slice C4 vs4.length e4] → Calls Tryz.prog 28 #[.pointer (some ⟨b, 0, none⟩), .agg [.int .i64 k3, .string s3, .int .i64 n3, .slice A3 ps3.length c3, .slice B3 fs3.length d3, .slice C3 vs3.length e3].toArray, .agg [.int .i64 k4, .string s4, .int .i64 n4, .slice A4 ps4.length c4, .slice B4 fs4.length d4, .slice C4 vs4.length e4].toArray] wx (FitPost b fuel lo m1 m2 asked rows wx True (Fit (.mk k3 s3 n3 ps3 fs3 vs3) (.mk k4 s4 n4 ps4 fs4 vs4)))) := Hd fun wx hu h1 h2 => HKG1.out _ HMG.out wx _ _ hu h1 h2
    have HUL : Hid (∀ wx, RunI b fuel lo m1 m2 asked rows w wx → ButG (fun x => x = b) w6 wx → RunI b fuel lo m1 m2 asked rows w1 wx) := Hd fun wx h1 h2 => RunI.trans (HB16.out.same (HB56.out.same h2)) h1.self (Int.le_refl _)
    have HW6 := Hd hw6
    have HG4 := Hd hg4
    have HOF : Hid (ObOne sv (nf, ff, .mk k3 s3 n3 ps3 fs3 vs3) ↔ ((ff % 2 = 0 → fg % 2 = 0) ∧ Fit (.mk k4 s4 n4 ps4 fs4 vs4) (.mk k3 s3 n3 ps3 fs3 vs3) ∧ (ff / 2 % 2 = 1 → fg / 2 % 2 = 1 ∧ Fit (.mk k3 s3 n3 ps3 fs3 vs3) (.mk k4 s4 n4 ps4 fs4 vs4)))) := Hd (HOS.out (nf, ff, .mk k3 s3 n3 ps3 fs3 vs3) (ng, fg, .mk k4 s4 n4 ps4 fs4 vs4) hfd)
    clear hfd hrg hw6 hg4 hb6
    obtain ⟨y0, y1, y2, y3, y4, y5, y6, y7⟩ := cz8 HX5.out
    go_upto_region 5 with fail
    rw [← HW6.out, ← HG4.out]
    clear y0 y1 y2 y3 y4 y5 y6 y7
    obtain ⟨y0, y1, y2, y3, y4, y5, y6, y7⟩ := cz8 HX6.out
    obtain ⟨z0, z1, z2, z3, z4, z5, z6, z7⟩ := cz8 HY6.out
    rcases HBT.out.1 with ⟨p1, q1⟩ | ⟨p1, q1⟩
    ·rcases HBG.out.1 with ⟨p3, q3⟩ | ⟨p3, q3⟩
     ·have HFG : Hid (ff % 2 = 0 → fg % 2 = 0) := Hd fun _ => q3
      clear q1 q3
      go_wp2_with fail
      refine KF1.out.mono ?_
      rintro e7 w7 (⟨r, rfl, hr7, hu7⟩ | ⟨rfl, -, hb7⟩)
      ·have HU7 : Hid (RunI b fuel lo m1 m2 asked rows w w7) := Hd (RunI.trans HU6.out.but hu7 (Int.le_refl _))
       have HR7 := Hd hr7
       have HX7 := Hd ((hu7.but.block g3 (Array.getElem?_eq_some_iff.1 HX6.out).1 HNB.out.1).trans HX6.out)
       have HY7 := Hd ((hu7.but.block g4 (Array.getElem?_eq_some_iff.1 HY6.out).1 HNB.out.2).trans HY6.out)
       have HB7 := Hd hu7.but
       clear hr7 hu7 KF1 y0 y1 y2 y3 y4 y5 y6 y7 z0 z1 z2 z3 z4 z5 z6 z7
       cases r with
       | false =>
        go_wp2_with fail
        exact HYES.out _ _ (iff_of_false (by decide) (HST.out fun h => absurd (HR7.out.2 (HOF.out.1 h).2.1) (by decide))) HU7.out
       | true =>
        obtain ⟨y0, y1, y2, y3, y4, y5, y6, y7⟩ := cz8 HX7.out
        obtain ⟨z0, z1, z2, z3, z4, z5, z6, z7⟩ := cz8 HY7.out
        have HFT1 := Hd (HR7.out.1 (by trivial))
        clear HR7
        rcases HBT.out.2 with ⟨p2, q2⟩ | ⟨p2, q2⟩
        ·have HO : Hid (ObOne sv (nf, ff, .mk k3 s3 n3 ps3 fs3 vs3)) := Hd (HOF.out.2 ⟨HFG.out, HFT1.out, fun h => absurd (q2.symm.trans h) (by decide)⟩)
         clear q2
         go_wp2_with fail
         refine ⟨⟨i + 1, HIn.out, by first | rfl | rw [wr2], HUL.out _ HU7.out HB7.out, HNX.out HO.out⟩, ?_⟩
         first | exact HMI.out | (rw [wr2]; exact HMI.out)
        ·rcases HBG.out.2 with ⟨p4, q4⟩ | ⟨p4, q4⟩
         ·have HN : Hid (¬ ObOne sv (nf, ff, .mk k3 s3 n3 ps3 fs3 vs3)) := Hd fun h => absurd (q4.symm.trans ((HOF.out.1 h).2.2 q2).1) (by decide)
          clear q2 q4
          go_wp2_with fail
          exact HYES.out _ _ (iff_of_false (by decide) (HST.out HN.out)) HU7.out
         ·have HQ := Hd (And.intro q2 q4)
          have KG1 := Hd (HKGs.out w7 HU7.out (HRQ5.out.but (HB56.out.same HB7.out) fun x hx => ⟨(HK'.out x hx).2, hx⟩) (HRG.out.but (HB56.out.same HB7.out) fun x hx => ⟨(HK.out x hx).2, hx⟩))
          clear q2 q4
          go_wp2_with fail
          refine KG1.out.mono ?_
          rintro e8 w8 (⟨r, rfl, hr8, hu8⟩ | ⟨rfl, -, hb8⟩)
          ·have HU8 : Hid (RunI b fuel lo m1 m2 asked rows w w8) := Hd (RunI.trans HU7.out.but hu8 (Int.le_refl _))
           have HR8 := Hd hr8
           have HB8 := Hd (HB7.out.same hu8.but)
           clear hr8 hu8 KG1 y0 y1 y2 y3 y4 y5 y6 y7 z0 z1 z2 z3 z4 z5 z6 z7
           cases r with
           | false =>
            go_wp2_with fail
            exact HYES.out _ _ (iff_of_false (by decide) (HST.out fun h => absurd (HR8.out.2 ((HOF.out.1 h).2.2 HQ.out.1).2) (by decide))) HU8.out
           | true =>
            have HO : Hid (ObOne sv (nf, ff, .mk k3 s3 n3 ps3 fs3 vs3)) := Hd (HOF.out.2 ⟨HFG.out, HFT1.out, fun _ => ⟨HQ.out.2, HR8.out.1 (by trivial)⟩⟩)
            go_wp2_with fail
            refine ⟨⟨i + 1, HIn.out, by first | rfl | rw [wr2], HUL.out _ HU8.out HB8.out, HNX.out HO.out⟩, ?_⟩
            first | exact HMI.out | (rw [wr2]; exact HMI.out)
          ·have HFIN : Hid (PO (.panicked [{ v := stopV, recovered := false }]) w8) := Hd (HNO.out _ HNE.out (HU7.out.but.same hb8))
           clear hb8
           go_wp2_with fail
           first | exact HFIN.out | (simp only [bodyPost]; exact ⟨trivial, HFIN.out⟩)
      ·have HFIN : Hid (PO (.panicked [{ v := stopV, recovered := false }]) w7) := Hd (HNO.out _ HNE.out (HU6.out.but.same hb7))
       clear hb7
       go_wp2_with fail
       first | exact HFIN.out | (simp only [bodyPost]; exact ⟨trivial, HFIN.out⟩)
     ·have HN : Hid (¬ ObOne sv (nf, ff, .mk k3 s3 n3 ps3 fs3 vs3)) := Hd fun h => absurd (q3.symm.trans ((HOF.out.1 h).1 q1)) (by decide)
      clear q1 q3
      go_wp2_with fail
      exact HYES.out _ _ (iff_of_false (by decide) (HST.out HN.out)) HU6.out
    ·have HFG : Hid (ff % 2 = 0 → fg % 2 = 0) := Hd fun h => absurd (q1.symm.trans h) (by decide)
     clear q1
     go_wp2_with fail
     refine KF1.out.mono ?_
     rintro e7 w7 (⟨r, rfl, hr7, hu7⟩ | ⟨rfl, -, hb7⟩)
     ·have HU7 : Hid (RunI b fuel lo m1 m2 asked rows w w7) := Hd (RunI.trans HU6.out.but hu7 (Int.le_refl _))
      have HR7 := Hd hr7
      have HX7 := Hd ((hu7.but.block g3 (Array.getElem?_eq_some_iff.1 HX6.out).1 HNB.out.1).trans HX6.out)
      have HY7 := Hd ((hu7.but.block g4 (Array.getElem?_eq_some_iff.1 HY6.out).1 HNB.out.2).trans HY6.out)
      have HB7 := Hd hu7.but
      clear hr7 hu7 KF1 y0 y1 y2 y3 y4 y5 y6 y7 z0 z1 z2 z3 z4 z5 z6 z7
      cases r with
      | false =>
       go_wp2_with fail
       exact HYES.out _ _ (iff_of_false (by decide) (HST.out fun h => absurd (HR7.out.2 (HOF.out.1 h).2.1) (by decide))) HU7.out
      | true =>
       obtain ⟨y0, y1, y2, y3, y4, y5, y6, y7⟩ := cz8 HX7.out
       obtain ⟨z0, z1, z2, z3, z4, z5, z6, z7⟩ := cz8 HY7.out
       have HFT1 := Hd (HR7.out.1 (by trivial))
       clear HR7
       rcases HBT.out.2 with ⟨p2, q2⟩ | ⟨p2, q2⟩
       ·have HO : Hid (ObOne sv (nf, ff, .mk k3 s3 n3 ps3 fs3 vs3)) := Hd (HOF.out.2 ⟨HFG.out, HFT1.out, fun h => absurd (q2.symm.trans h) (by decide)⟩)
        clear q2
        go_wp2_with fail
        refine ⟨⟨i + 1, HIn.out, by first | rfl | rw [wr2], HUL.out _ HU7.out HB7.out, HNX.out HO.out⟩, ?_⟩
        first | exact HMI.out | (rw [wr2]; exact HMI.out)
       ·rcases HBG.out.2 with ⟨p4, q4⟩ | ⟨p4, q4⟩
        ·have HN : Hid (¬ ObOne sv (nf, ff, .mk k3 s3 n3 ps3 fs3 vs3)) := Hd fun h => absurd (q4.symm.trans ((HOF.out.1 h).2.2 q2).1) (by decide)
         clear q2 q4
         go_wp2_with fail
         exact HYES.out _ _ (iff_of_false (by decide) (HST.out HN.out)) HU7.out
        ·have HQ := Hd (And.intro q2 q4)
         have KG1 := Hd (HKGs.out w7 HU7.out (HRQ5.out.but (HB56.out.same HB7.out) fun x hx => ⟨(HK'.out x hx).2, hx⟩) (HRG.out.but (HB56.out.same HB7.out) fun x hx => ⟨(HK.out x hx).2, hx⟩))
         clear q2 q4
         go_wp2_with fail
         refine KG1.out.mono ?_
         rintro e8 w8 (⟨r, rfl, hr8, hu8⟩ | ⟨rfl, -, hb8⟩)
         ·have HU8 : Hid (RunI b fuel lo m1 m2 asked rows w w8) := Hd (RunI.trans HU7.out.but hu8 (Int.le_refl _))
          have HR8 := Hd hr8
          have HB8 := Hd (HB7.out.same hu8.but)
          clear hr8 hu8 KG1 y0 y1 y2 y3 y4 y5 y6 y7 z0 z1 z2 z3 z4 z5 z6 z7
          cases r with
          | false =>
           go_wp2_with fail
           exact HYES.out _ _ (iff_of_false (by decide) (HST.out fun h => absurd (HR8.out.2 ((HOF.out.1 h).2.2 HQ.out.1).2) (by decide))) HU8.out
          | true =>
           have HO : Hid (ObOne sv (nf, ff, .mk k3 s3 n3 ps3 fs3 vs3)) := Hd (HOF.out.2 ⟨HFG.out, HFT1.out, fun _ => ⟨HQ.out.2, HR8.out.1 (by trivial)⟩⟩)
           go_wp2_with fail
           refine ⟨⟨i + 1, HIn.out, by first | rfl | rw [wr2], HUL.out _ HU8.out HB8.out, HNX.out HO.out⟩, ?_⟩
           first | exact HMI.out | (rw [wr2]; exact HMI.out)
         ·have HFIN : Hid (PO (.panicked [{ v := stopV, recovered := false }]) w8) := Hd (HNO.out _ HNE.out (HU7.out.but.same hb8))
          clear hb8
          go_wp2_with fail
          first | exact HFIN.out | (simp only [bodyPost]; exact ⟨trivial, HFIN.out⟩)
     ·have HFIN : Hid (PO (.panicked [{ v := stopV, recovered := false }]) w7) := Hd (HNO.out _ HNE.out (HU6.out.but.same hb7))
      clear hb7
      go_wp2_with fail
      first | exact HFIN.out | (simp only [bodyPost]; exact ⟨trivial, HFIN.out⟩)
  ·have t1 : decide ((i : Int) < (fs2.length : Int)) = false := by simp; omega
   rw [List.take_of_length_le (by omega)] at hno
   have HNL := Hd hno
   clear hi hu hno hln
   go_wp2_with fail
   exact HYES.out _ _ (iff_of_true rfl HNL.out) HU.out
end Go.Proofs.YtgjblmlibhppiaaGreatDoor
