import Derived.Test.YtjbccjmpebgdjaaGreatDoorMg29
namespace Go.Proofs.YtjbccjmpebgdjaaGreatDoor
open Go.RowKit
set_option maxRecDepth 100000
set_option maxHeartbeats 64000000
theorem inf_no {t : Ty} : infT t = false ↔ namesI t = [] := by
 constructor
 ·intro h
  by_cases hn : namesI t = []
  ·exact hn
  ·exact absurd ((infT_names t).2 hn) (by rw [h]; decide)
 ·intro h
  cases e : infT t
  ·rfl
  ·exact absurd h ((infT_names t).1 e)
theorem namesP_nil {k : Int} (hk : ¬ k = 21) : ∀ (ps : List Ty) (i : Nat), namesP k i ps = [] → ∀ p ∈ ps, namesI p = []
 | [], _, _, _, hp => by cases hp
 | a :: l, i, h, p, hp => by
  have e : (k == 21 && i == 1) = false := by simp [hk]
  rw [namesP, e, if_neg (by decide), List.append_eq_nil_iff] at h
  rcases List.mem_cons.1 hp with rfl | hp
  ·exact h.1
  ·exact namesP_nil hk l (i + 1) h.2 p hp
theorem namesF_nil : ∀ (fs : FsT), namesF fs = [] → ∀ f ∈ fs, namesI f.2.2 = []
 | [], _, _, hp => by cases hp
 | a :: l, h, p, hp => by
  have e : namesF (a :: l) = namesI a.2.2 ++ namesF l := by simp [namesF]
  rw [e, List.append_eq_nil_iff] at h
  rcases List.mem_cons.1 hp with rfl | hp
  ·exact h.1
  ·exact namesF_nil l h.2 p hp
theorem inf_parts {p : Ty} (h : infT p = false) : ¬ p.k = 22 ∧ (¬ p.k = 21 → ∀ q ∈ p.ps, infT q = false) ∧ ∀ f ∈ p.fs, infT f.2.2 = false := by
 obtain ⟨k, s, n, ps, fs, vs⟩ := p
 have h1 := inf_no.1 h
 rw [namesI_mk] at h1
 by_cases h22 : k = 22
 ·rw [if_pos h22] at h1; cases h1
 ·rw [if_neg h22, List.append_eq_nil_iff] at h1
  exact ⟨h22, fun h21 q hq => inf_no.2 (namesP_nil h21 _ _ h1.1 q hq), fun f hf => inf_no.2 (namesF_nil _ h1.2 f hf)⟩
theorem flat_nil {α β : Type} {g : α → List β} {l : List α} (h : ∀ x ∈ l, g x = []) : (l.map g).flatten = [] := by
 rw [List.flatten_eq_nil_iff]
 intro y hy
 obtain ⟨x, hx, rfl⟩ := List.mem_map.1 hy
 exact h x hx
theorem zip_nil : ∀ (ps ts : List Ty), (∀ q ∈ ps, infT q = false) → ∀ x ∈ List.zipWith gathT ps ts, x = []
 | [], _, _, _, hx => by simp at hx
 | _ :: _, [], _, _, hx => by simp at hx
 | a :: l, b :: m, h, x, hx => by
  rw [List.zipWith_cons_cons] at hx
  rcases List.mem_cons.1 hx with rfl | hx
  ·exact gathT_no (h _ List.mem_cons_self)
  ·exact zip_nil l m (fun q hq => h q (List.mem_cons_of_mem _ hq)) x hx
theorem head_nil {β : Type} {l : List (List β)} (h : ∀ x ∈ l, x = []) : l.headD [] = [] := by
 cases l with
 | nil => rfl
 | cons a l => exact h a List.mem_cons_self
theorem gathS (p t : Ty) : gathT p t =
 if p.k = 22 then [(p.t, t)]
 else if p.k = 15 then (p.ps.map fun q => gathT q t).flatten
 else if isComp p.k = false then []
 else if t.k = 15 then (t.ps.map fun q => gathT p q).flatten
 else if p.k = 11 ∧ t.k = 12 then (p.ps.map fun q => gathT q (unionT t.ps)).headD []
 else if p.k ≠ t.k then []
 else if p.k = 11 then (List.zipWith gathT p.ps t.ps).headD []
 else if p.k = 12 ∨ (p.k = 17 ∧ p.t = t.t) then (if t.ps.length = p.ps.length then (List.zipWith gathT p.ps t.ps).flatten else [])
 else if p.k = 13 ∧ t.vs = [] then (List.zipWith gathT p.ps.dropLast t.ps.dropLast).flatten ++ (match p.ps.getLast?, t.ps.getLast? with
  | some q, some u => gathT q u
  | _, _ => [])
 else if p.k = 14 then (p.fs.map fun f => ((t.fs.find? fun g => decide (g.1 = f.1)).map fun g => gathT f.2.2 (heldT g)).getD []).flatten
 else [] := by
 cases hi : infT p with
 | true => rw [gathT_eq, if_neg (by rw [hi]; decide)]; rfl
 | false =>
  obtain ⟨h22, hps, hfs⟩ := inf_parts hi
  rw [gathT_no hi, if_neg h22]
  split
  ·rename_i h15
   exact (flat_nil fun q hq => gathT_no (hps (by omega) q hq)).symm
  split
  ·rfl
  rename_i hc
  have h21 : ¬ p.k = 21 := fun e => hc (by rw [e]; rfl)
  have hq := hps h21
  split
  ·exact (flat_nil fun q _ => gathT_no hi).symm
  split
  ·exact (head_nil fun x hx => by obtain ⟨q, hm, rfl⟩ := List.mem_map.1 hx; exact gathT_no (hq q hm)).symm
  split
  ·rfl
  split
  ·exact (head_nil (zip_nil _ _ hq)).symm
  split
  ·split
   ·exact (List.flatten_eq_nil_iff.2 (zip_nil _ _ hq)).symm
   ·rfl
  split
  ·rw [List.flatten_eq_nil_iff.2 (zip_nil _ _ fun q hm => hq q (List.dropLast_subset _ hm)), List.nil_append]
   cases h1 : p.ps.getLast? with
   | none => rfl
   | some q =>
    cases h2 : t.ps.getLast? with
    | none => rfl
    | some u => exact (gathT_no (hq q (List.mem_of_getLast? h1))).symm
  split
  ·refine (flat_nil fun f hf => ?_).symm
   cases t.fs.find? fun g => decide (g.1 = f.1) with
   | none => rfl
   | some g => exact gathT_no (hfs f hf)
  ·rfl
theorem gathM (k : Int) (s : ByteArray) (n : Int) (ps : List Ty) (fs : FsT) (vs : VsT) (k2 : Int) (s2 : ByteArray) (n2 : Int) (ps2 : List Ty) (fs2 : FsT) (vs2 : VsT) : gathT (.mk k2 s2 n2 ps2 fs2 vs2) (.mk k s n ps fs vs) =
 if k2 = 22 then [(s2, .mk k s n ps fs vs)]
 else if k2 = 15 then (ps2.map fun q => gathT q (.mk k s n ps fs vs)).flatten
 else if isComp k2 = false then []
 else if k = 15 then (ps.map fun q => gathT (.mk k2 s2 n2 ps2 fs2 vs2) q).flatten
 else if k2 = 11 ∧ k = 12 then (ps2.map fun q => gathT q (unionT ps)).headD []
 else if k2 ≠ k then []
 else if k2 = 11 then (List.zipWith gathT ps2 ps).headD []
 else if k2 = 12 ∨ (k2 = 17 ∧ s2 = s) then (if ps.length = ps2.length then (List.zipWith gathT ps2 ps).flatten else [])
 else if k2 = 13 ∧ vs = [] then (List.zipWith gathT ps2.dropLast ps.dropLast).flatten ++ (match ps2.getLast?, ps.getLast? with
  | some q, some u => gathT q u
  | _, _ => [])
 else if k2 = 14 then (fs2.map fun f => ((fs.find? fun g => decide (g.1 = f.1)).map fun g => gathT f.2.2 (heldT g)).getD []).flatten
 else [] := gathS _ _
theorem GatP.go {f : Nat} {L : List (ByteArray × Ty)} {q t : Ty} (h : GatP f L q t) {K K' : Nat → Prop} {w0 w wr : World} {m : Nat} {F : ByteArray → Option Rw} {G : List (ByteArray × Ty)} {b o b' o' : Nat} (hm : HoldMid w0 w m F G wr) (hT : AtT K w t b o) (hP : AtT K' w q b' o') (hKT : ∀ x, K x ∨ x = b → x < w.heap.size ∧ ¬ rowB m F x) (hKP : ∀ x, K' x ∨ x = b' → x < w.heap.size ∧ ¬ rowB m F x) (hB : w0.heap.size ≤ w.heap.size)
  (hq : formT q = true) (ht : formT t = true) (hc : cntT q + cntT t ≤ 1000000) (hl : G.length + L.length ≤ 1000000000) :
  Calls Tryz.prog f #[.map (some m), .pointer (some ⟨b, o, none⟩), .pointer (some ⟨b', o', none⟩)] wr fun e w' => e = .returned (.tuple #[]) ∧ HoldMid w0 w m F (G ++ L) w' := by
 have hT2 := hm.at hT hKT
 have hP2 := hm.at hP hKP
 obtain ⟨F', hG, hb, hf⟩ := hm
 have out : ∀ x, x < w.heap.size ∧ ¬ rowB m F x → x < wr.heap.size ∧ ¬ rowB m F' x := fun x hx => ⟨Nat.lt_of_lt_of_le hx.1 hb.size, fun e => (hf x e).elim hx.2 (by omega)⟩
 refine (h K K' w0 wr m F' G b o b' o' hT2 hP2 (fun x hx => out x (hKT x hx)) (fun x hx => out x (hKP x hx)) hG (Nat.le_trans hB hb.size) hq ht hc hl).mono ?_
 rintro e w' ⟨rfl, hm2⟩
 exact ⟨rfl, hm2.comp hb hf (ButG.refl _ _)⟩
theorem flat_part {α β : Type} (g : α → List β) {l : List α} {i : Nat} (h : i < l.length) : ((l.take (i + 1)).map g).flatten = ((l.take i).map g).flatten ++ g l[i] := by
 rw [List.take_succ_eq_append_getElem h, List.map_append, List.flatten_append]
 simp
theorem flat_len_le {α β : Type} (g : α → List β) (l : List α) (i : Nat) : ((l.take i).map g).flatten.length ≤ (l.map g).flatten.length := by
 conv => rhs; rw [← List.take_append_drop i l, List.map_append, List.flatten_append, List.length_append]
 omega
theorem hold_union {p t : Ty} (hk : p.k = 15) (hinf : infT p = true) (ih : ∀ q ∈ p.ps, HoldP q t) : HoldP p t := by
 intro K K' w0 w m F G b o b' o' hT hP hKT hKP hG hB hfp hft hct hlen
 obtain ⟨k, s, n, ps, fs, vs⟩ := p
 obtain ⟨k2, s2, n2, ps2, fs2, vs2⟩ := t
 obtain rfl : k = 15 := hk
 have hga : gathT (.mk 15 s n ps fs vs) (.mk k2 s2 n2 ps2 fs2 vs2) = (ps.map fun q => gathT q (.mk k2 s2 n2 ps2 fs2 vs2)).flatten := by rw [gathT_eq, if_neg (by rw [hinf]; decide), if_neg (by show ¬ ((15 : Int) = 22); decide), if_pos (show (Ty.mk 15 s n ps fs vs).k = 15 from rfl)]; rfl
 rw [hga] at hlen ⊢
 have ki := inf_any _ K' w b' o' hP
 rw [hinf] at ki
 obtain ⟨A, c, A', c', A'', c'', ⟨x0, x1, x2, x3, x4, x5⟩, -, hLp, -, -⟩ := hP.six
 obtain ⟨A2, c2, B2, d2, C2, e2, ⟨y0, y1, y2, y3, y4, y5⟩, -, hLt, -, -⟩ := hT.six
 have h2 : 2 ≤ ps.length := (form_15 hfp).1
 have hll := hLp.short
 obtain ⟨pb, po, hA, hKb, hat⟩ := hLp.at (by omega)
 subst hA
 have KQ : Hid (∀ i (hi : i < ps.length) wr, HoldMid w0 w m F (G ++ ((ps.take i).map (fun q => gathT q (.mk k2 s2 n2 ps2 fs2 vs2))).flatten) wr → Calls Tryz.prog 25 #[.map (some m), .pointer (some ⟨b, o, none⟩), .pointer (some ⟨pb, po + i * 6, none⟩)] wr fun e w' => e = .returned (.tuple #[]) ∧ HoldMid w0 w m F (G ++ ((ps.take (i + 1)).map (fun q => gathT q (.mk k2 s2 n2 ps2 fs2 vs2))).flatten) w') := Hd fun i hi wr hm => by
  have h3 := flat_len_le (fun q => gathT q (.mk k2 s2 n2 ps2 fs2 vs2)) ps (i + 1)
  rw [flat_part (fun q => gathT q (.mk k2 s2 n2 ps2 fs2 vs2)) hi] at h3 ⊢
  rw [← List.append_assoc]
  rw [List.length_append] at h3
  exact GatP.go (ih _ (List.getElem_mem hi)) hm hT (hat i hi) hKT (fun x hx => hKP x (hx.elim .inl fun e => .inl (by rw [e]; exact hKb))) hB (form_ps hfp _ (List.getElem_mem hi)) hft (by have h1 := cntL_mem (List.getElem_mem hi); have h2 := cnt_ps (.mk 15 s n ps fs vs); simp only [Ty.ps] at h2; omega) (by rw [List.length_append]; omega)
 have hnb := (hKT b (.inr rfl)).2
 have hnb' := (hKP b' (.inr rfl)).2
 have HSW : Hid (∀ wx, HoldMid w0 w m F (G ++ ((ps.take 0).map (fun q => gathT q (.mk k2 s2 n2 ps2 fs2 vs2))).flatten) wx → True) := Hd fun _ _ => trivial
 have HCP : Hid (∀ wx G', HoldMid w0 w m F G' wx → wx.cell? ⟨b', o' + 3, none⟩ = some (.slice (some ⟨pb, po, none⟩) ps.length c)) := Hd fun wx G' hm => by
  obtain ⟨F', _, hb, _⟩ := hm
  exact but_cell hb hnb' x3
 have HST : Hid (HoldMid w0 w m F (G ++ ((ps.take 0).map (fun q => gathT q (.mk k2 s2 n2 ps2 fs2 vs2))).flatten) w) := Hd (by rw [List.take_zero, List.map_nil, List.flatten_nil, List.append_nil]; exact HoldMid.start hG)
 have KI := Hd ki
 clear hT hP hKT hKP hG hB hfp hft hct hlen hga ki hLp hLt hat hKb ih hnb hnb' HSW hinf x1 x2 x4 x5 y1 y2 y4 y5
 generalize (fun q => gathT q (.mk k2 s2 n2 ps2 fs2 vs2)) = gg at KQ HCP HST ⊢
 go_enter Tryz.func25, Tryz.ntmps25
 go_wp2_with fail
 refine KI.out.mono ?_
 rintro e w' ⟨rfl, hw⟩; obtain rfl := hw.symm
 go_wp2_with fail
 go_loopw [40] (fun v wr => ∃ (i : Nat), i ≤ ps.length ∧ v = .int .i64 i ∧ HoldMid w0 w m F (G ++ ((ps.take i).map gg).flatten) wr) (fun v _ => ps.length - (intOf v).toNat)
 case atStart => exact ⟨0, by omega, rfl, HST.out⟩
 case round =>
  obtain ⟨i, hi, rfl, hm⟩ := hrel
  have HMi := Hd hm
  have hc := HCP.out _ _ hm
  clear hm
  by_cases hin : i < ps.length
  ·have t1 : decide ((i : Int) < (ps.length : Int)) = true := by simp; omega
   have wr2 : wrap64 ((i : Int) + 1) = ((i + 1 : Nat) : Int) := wrap_one (by omega)
   have HM := Hd (measI hin)
   have HIn : Hid (i + 1 ≤ ps.length) := Hd hin
   have HN : Hid (i < ps.length) := Hd hin
   have i1 : (0 : Int) ≤ (i : Int) := by omega
   have i2 : (i : Int) < (ps.length : Int) := by omega
   go_wp2_with fail
   refine (KQ.out i HN.out _ HMi.out).mono ?_
   rintro e w' ⟨rfl, hm2⟩
   have HM2 := Hd hm2
   clear hm2
   go_wp2_with fail
   refine ⟨⟨i + 1, HIn.out, by first | rfl | rw [wr2], HM2.out⟩, ?_⟩
   first | exact HM.out | (rw [wr2]; exact HM.out)
  ·have t1 : decide ((i : Int) < (ps.length : Int)) = false := by simp; omega
   have HE : Hid (HoldMid w0 w m F (G ++ (ps.map gg).flatten) _) := Hd (by have h := HMi.out; rw [List.take_of_length_le (by omega)] at h; exact h)
   clear hc hi
   go_wp2_with fail
   exact bodyPost_end (v := .tuple #[]) (by simp [results, Tryz.results25, go_sem]) rfl ⟨rfl, HE.out⟩
theorem hold_parts {p t : Ty} (hk : t.k = 15) (hinf : infT p = true) (hk22 : ¬ p.k = 22) (hk15 : ¬ p.k = 15) (hcomp : isComp p.k = true) (ih : ∀ q ∈ t.ps, HoldP p q) : HoldP p t := by
 intro K K' w0 w m F G b o b' o' hT hP hKT hKP hG hB hfp hft hct hlen
 obtain ⟨k, s, n, ps, fs, vs⟩ := p
 obtain ⟨k2, s2, n2, ps2, fs2, vs2⟩ := t
 obtain rfl : k2 = 15 := hk
 have hga : gathT (.mk k s n ps fs vs) (.mk 15 s2 n2 ps2 fs2 vs2) = (ps2.map fun q => gathT (.mk k s n ps fs vs) q).flatten := by rw [gathT_eq, if_neg (by rw [hinf]; decide), if_neg hk22, if_neg hk15, if_neg (by rw [hcomp]; decide), if_pos (show (Ty.mk 15 s2 n2 ps2 fs2 vs2).k = 15 from rfl)]; rfl
 rw [hga] at hlen ⊢
 have ki := inf_any _ K' w b' o' hP
 rw [hinf] at ki
 obtain ⟨A, c, A', c', A'', c'', ⟨x0, x1, x2, x3, x4, x5⟩, -, hLp, -, -⟩ := hP.six
 obtain ⟨A2, c2, B2, d2, C2, e2, ⟨y0, y1, y2, y3, y4, y5⟩, -, hLt, -, -⟩ := hT.six
 have h2 : 2 ≤ ps2.length := (form_15 hft).1
 have hll := hLt.short
 obtain ⟨pb, po, hA, hKb, hat⟩ := hLt.at (by omega)
 subst hA
 have KQ : Hid (∀ i (hi : i < ps2.length) wr, HoldMid w0 w m F (G ++ ((ps2.take i).map (fun q => gathT (.mk k s n ps fs vs) q)).flatten) wr → Calls Tryz.prog 25 #[.map (some m), .pointer (some ⟨pb, po + i * 6, none⟩), .pointer (some ⟨b', o', none⟩)] wr fun e w' => e = .returned (.tuple #[]) ∧ HoldMid w0 w m F (G ++ ((ps2.take (i + 1)).map (fun q => gathT (.mk k s n ps fs vs) q)).flatten) w') := Hd fun i hi wr hm => by
  have h3 := flat_len_le (fun q => gathT (.mk k s n ps fs vs) q) ps2 (i + 1)
  rw [flat_part (fun q => gathT (.mk k s n ps fs vs) q) hi] at h3 ⊢
  rw [← List.append_assoc]
  rw [List.length_append] at h3
  exact GatP.go (ih _ (List.getElem_mem hi)) hm (hat i hi) hP (fun x hx => hKT x (hx.elim .inl fun e => .inl (by rw [e]; exact hKb))) hKP hB hfp (form_ps hft _ (List.getElem_mem hi)) (by have h1 := cntL_mem (List.getElem_mem hi); have h2 := cnt_ps (.mk 15 s2 n2 ps2 fs2 vs2); simp only [Ty.ps] at h2; omega) (by rw [List.length_append]; omega)
 have hnb := (hKT b (.inr rfl)).2
 have hnb' := (hKP b' (.inr rfl)).2
 have HSW : Hid (∀ wx, HoldMid w0 w m F (G ++ ((ps2.take 0).map (fun q => gathT (.mk k s n ps fs vs) q)).flatten) wx → True) := Hd fun _ _ => trivial
 have HCP : Hid (∀ wx G', HoldMid w0 w m F G' wx → wx.cell? ⟨b, o + 3, none⟩ = some (.slice (some ⟨pb, po, none⟩) ps2.length c2)) := Hd fun wx G' hm => by
  obtain ⟨F', _, hb, _⟩ := hm
  exact but_cell hb hnb y3
 have HST : Hid (HoldMid w0 w m F (G ++ ((ps2.take 0).map (fun q => gathT (.mk k s n ps fs vs) q)).flatten) w) := Hd (by rw [List.take_zero, List.map_nil, List.flatten_nil, List.append_nil]; exact HoldMid.start hG)
 have KI := Hd ki
 have g22 : decide (k = 22) = false := decide_eq_false hk22
 have g15 : decide (k = 15) = false := decide_eq_false hk15
 have b22 : (k == 22) = false := beq_eq_false_iff_ne.2 hk22
 have b15 : (k == 15) = false := beq_eq_false_iff_ne.2 hk15
 clear hT hP hKT hKP hG hB hfp hft hct hlen hga ki hLp hLt hat hKb ih hnb hnb' HSW hinf x1 x2 x4 x5 y1 y2 y4 y5
 generalize (fun q => gathT (.mk k s n ps fs vs) q) = gg at KQ HCP HST ⊢
 go_enter Tryz.func25, Tryz.ntmps25
 go_wp2_with fail
 refine KI.out.mono ?_
 rintro e w' ⟨rfl, hw⟩; obtain rfl := hw.symm
 have hcc : k = 11 ∨ k = 12 ∨ k = 17 ∨ k = 13 ∨ k = 14 := by
  have h : isComp k = true := hcomp
  unfold isComp at h
  simp only [Bool.or_eq_true, beq_iff_eq] at h
  omega
 clear hcomp hk22 hk15 g22 g15 b22 b15
 rcases hcc with rfl | rfl | rfl | rfl | rfl
 all_goals (
  go_wp2_with fail
  go_loopw [69] (fun v wr => ∃ (i : Nat), i ≤ ps2.length ∧ v = .int .i64 i ∧ HoldMid w0 w m F (G ++ ((ps2.take i).map gg).flatten) wr) (fun v _ => ps2.length - (intOf v).toNat)
  case atStart => exact ⟨0, by omega, rfl, HST.out⟩
  case round =>
   obtain ⟨i, hi, rfl, hm⟩ := hrel
   have HMi := Hd hm
   have hc := HCP.out _ _ hm
   clear hm
   by_cases hin : i < ps2.length
   ·have t1 : decide ((i : Int) < (ps2.length : Int)) = true := by simp; omega
    have wr2 : wrap64 ((i : Int) + 1) = ((i + 1 : Nat) : Int) := wrap_one (by omega)
    have HM := Hd (measI hin)
    have HIn : Hid (i + 1 ≤ ps2.length) := Hd hin
    have HN : Hid (i < ps2.length) := Hd hin
    have i1 : (0 : Int) ≤ (i : Int) := by omega
    have i2 : (i : Int) < (ps2.length : Int) := by omega
    go_wp2_with fail
    refine (KQ.out i HN.out _ HMi.out).mono ?_
    rintro e w' ⟨rfl, hm2⟩
    have HM2 := Hd hm2
    clear hm2
    go_wp2_with fail
    refine ⟨⟨i + 1, HIn.out, by first | rfl | rw [wr2], HM2.out⟩, ?_⟩
    first | exact HM.out | (rw [wr2]; exact HM.out)
   ·have t1 : decide ((i : Int) < (ps2.length : Int)) = false := by simp; omega
    have HE : Hid (HoldMid w0 w m F (G ++ (ps2.map gg).flatten) _) := Hd (by have h := HMi.out; rw [List.take_of_length_le (by omega)] at h; exact h)
    clear hc hi
    go_wp2_with fail
    exact bodyPost_ret (v := .tuple #[]) (by simp [results, Tryz.results25, go_sem]) rfl ⟨rfl, HE.out⟩
 )
def infV (s : ByteArray) : Ty := .mk 22 s 0 [] [] []
def arrT (q : Ty) : Ty := .mk 11 emptyB 0 [q] [] []
theorem form_infV {s : ByteArray} (h : nameT s = true) : formT (infV s) = true := by
 unfold infV
 rw [formT_mk, show shapeK 22 = ⟨true, false, false, false, 0, 0, true⟩ from rfl]
 have hs : selfB 22 s 0 [] (fieldsB (fieldsT [] formT)) (varsB (varsT [] formT)) = true := by unfold selfB; simpa using h
 rw [hs]
 unfold fitsB
 simp
theorem form_arrT {q : Ty} (h : formT q = true) : formT (arrT q) = true := by
 unfold arrT
 rw [formT_mk, show shapeK 11 = ⟨false, false, false, false, 1, 1, true⟩ from rfl]
 have hs : selfB 11 emptyB 0 [q] (fieldsB (fieldsT [] formT)) (varsB (varsT [] formT)) = true := by unfold selfB; simp
 rw [hs]
 unfold fitsB
 simp [emptyL, h]
theorem cnt_infV (s : ByteArray) : cntT (infV s) = 1 := by unfold infV; rw [cntT_mk]; rfl
theorem cnt_arrT (q : Ty) : cntT (arrT q) = cntT q + 1 := by
 unfold arrT
 rw [cntT_mk, cntL_cons, cntL_nil]
 show _ + cntF [] + cntV [] = _
 simp [cntF, cntV]; omega
theorem names_infV (s : ByteArray) : namesI (infV s) = [s] := by unfold infV; rw [namesI_mk, if_pos rfl]
theorem names_arrT (q : Ty) : namesI (arrT q) = namesI q := by
 unfold arrT
 rw [namesI_mk, if_neg (by decide)]
 simp [namesP, namesF]
theorem inf_infV (s : ByteArray) : infT (infV s) = true := (infT_names _).2 (by rw [names_infV]; simp)
theorem inf_arrV (s : ByteArray) : infT (arrT (infV s)) = true := (infT_names _).2 (by rw [names_arrT, names_infV]; simp)
theorem gath_infV (s : ByteArray) (t : Ty) : gathT (infV s) t = [(s, t)] := gathT_infer rfl (inf_infV s)
theorem gath_arr (s : ByteArray) (u : Ty) : gathT (arrT (infV s)) (arrT u) = [(s, u)] := by
 rw [gathT_eq, if_neg (by rw [inf_arrV]; decide), if_neg (by show ¬ ((11 : Int) = 22); decide), if_neg (by show ¬ ((11 : Int) = 15); decide), if_neg (by show ¬ (isComp 11 = false); decide), if_neg (by show ¬ ((11 : Int) = 15); decide), if_neg (by show ¬ ((11 : Int) = 11 ∧ (11 : Int) = 12); decide), if_neg (by show ¬ ((11 : Int) ≠ 11); decide), if_pos (show (arrT (infV s)).k = 11 from rfl)]
 show (List.zipWith gathT [infV s] [u]).headD [] = _
 simp [gath_infV]
theorem ord_str (a b : ByteArray) : ordT (strT a) (strT b) = cmpB a b := by
 unfold strT
 rw [ord_steps]
 have e1 : cmpZ 10 10 = 0 := rfl
 have e2 : cmpZ 0 0 = 0 := rfl
 have e3 : lexC (flatL []) (flatL []) = 0 := rfl
 have e4 : lexC (flatF []) (flatF []) = 0 := rfl
 have e5 : lexC (flatV []) (flatV []) = 0 := rfl
 rw [e1, e2, e3, e4, e5, or2_zero, or2_zero, or2_zero, or2_zero]
 unfold or2
 split
 ·rfl
 ·rename_i h
  have h2 : cmpB a b = 0 := by simpa using h
  exact h2.symm
theorem keys_object {t : Ty} (h : formT t = true) (hk : t.k = 14) : prtsT (keysT t) = t.fs.map fun f => strT f.1 := by
 have hb := form_fields h hk
 obtain ⟨k, s, n, ps, fs, vs⟩ := t
 have hk' : k = 14 := hk
 subst hk'
 have e : keysT (.mk 14 s n ps fs vs) = unionT ((fs.map fun f => f.1).map strT) := by
  unfold keysT
  rw [keysN_mk, if_neg (by decide), if_pos rfl]
  rfl
 rw [e, parts_union, kept_strs, List.map_map]
 show sortT (fs.map fun f => strT f.1) = fs.map fun f => strT f.1
 refine sortT_self (asc_adj fun i hi => ?_)
 rw [List.length_map] at hi
 rw [List.getElem_map, List.getElem_map, ord_str, cmpB_lt]
 have := fieldsB_lt hb hi
 rw [less_iff, decide_eq_true_eq] at this
 exact this
theorem asc_names {t : Ty} (h : formT t = true) (hk : t.k = 14) {i j : Nat} (hi : i < t.fs.length) (hj : j < t.fs.length) (hij : t.fs[i].1 = t.fs[j].1) : i = j := by
 have hp := keys_object h hk
 have ha : Asc (t.fs.map fun f => strT f.1) := by
  rw [← hp]
  unfold keysT keysU
  rcases keysN t with _ | l
  ·show Asc (prtsT (tyK 8))
   exact List.pairwise_singleton _ _
  ·show Asc (prtsT (unionT (l.map strT)))
   rw [parts_union]
   exact asc_sortT _
 have hA := List.pairwise_iff_getElem.1 ha
 rcases Nat.lt_trichotomy i j with hlt | he | hgt
 ·have := hA i j (by simpa using hi) (by simpa using hj) hlt
  rw [List.getElem_map, List.getElem_map, ord_str, hij, cmpB_self] at this
  cases this
 ·exact he
 ·have := hA j i (by simpa using hj) (by simpa using hi) hgt
  rw [List.getElem_map, List.getElem_map, ord_str, hij, cmpB_self] at this
  cases this
theorem find_first {l : FsT} {i : Nat} (hi : i < l.length) (hu : ∀ j (hj : j < l.length), l[j].1 = l[i].1 → j = i) : l.find? (fun f => decide (f.1 = l[i].1)) = some l[i] := by
 rw [List.find?_eq_some_iff_getElem]
 refine ⟨by simp, i, hi, rfl, fun j hj => ?_⟩
 have hjl : j < l.length := by omega
 have : ¬ l[j].1 = l[i].1 := fun e => by have := hu j hjl e; omega
 simpa using this
theorem field_at {t : Ty} (h : formT t = true) (hk : t.k = 14) {i : Nat} (hi : i < t.fs.length) : fieldT t.fs t.fs[i].1 = heldT t.fs[i] := by
 unfold fieldT
 rw [find_first hi fun j hj e => asc_names h hk hj hi e]
theorem list_lit2 {K : Nat → Prop} {W : World} {t q : Ty} {c0 c1 c2 c3 c4 c5 d0 d1 d2 d3 d4 d5 : Value} {g : Nat} (ht : RepT K W t [c0, c1, c2, c3, c4, c5]) (hq : RepT K W q [d0, d1, d2, d3, d4, d5]) (hh : W.heap[g]? = some (.cells #[c0, c1, c2, c3, c4, c5, d0, d1, d2, d3, d4, d5] 26 (0, 0))) :
  ListT (fun b => K b ∨ b = g) W [t, q] (some ⟨g, 0, none⟩) 2 := by
 refine ⟨g, 0, ⟨by simp, by simp, (fun h => by cases h), fun _ => ⟨rfl, .inr rfl⟩⟩, fun i hi => ?_⟩
 have hi2 : i = 0 ∨ i = 1 := by simp at hi; omega
 rcases hi2 with rfl | rfl
 ·refine ⟨_, fun j u hj => ?_, ht.weak fun _ h => .inl h⟩
  rw [Ch hh]
  rcases j with _ | _ | _ | _ | _ | _ | j
  all_goals first | exact hj | (simp at hj)
 ·refine ⟨_, fun j u hj => ?_, hq.weak fun _ h => .inl h⟩
  rw [Ch hh]
  rcases j with _ | _ | _ | _ | _ | _ | j
  all_goals first | exact hj | (simp at hj)
theorem uni2_ref {K : Nat → Prop} {W : World} {t q : Ty} {c0 c1 c2 c3 c4 c5 d0 d1 d2 d3 d4 d5 : Value} {g : Nat} (ht : RepT K W t [c0, c1, c2, c3, c4, c5]) (hq : RepT K W q [d0, d1, d2, d3, d4, d5]) (hh : W.heap[g]? = some (.cells #[c0, c1, c2, c3, c4, c5, d0, d1, d2, d3, d4, d5] 26 (0, 0))) (hft : formT t = true) (hfq : formT q = true) (hct : cntT t ≤ 1000000) (hcq : cntT q ≤ 1000000) :
  Calls Tryz.prog 31 #[.slice (some ⟨g, 0, none⟩) 2 2] W fun e w' => ∃ rs, e = .returned (.agg rs.toArray) ∧ RepT (fun b => K b ∨ b = g ∨ W.heap.size ≤ b) w' (unionT [t, q]) rs ∧ Below W.heap.size W w' := by
 have hl := (list_lit2 ht hq hh).both
 have hfl := flatU_cnt [t, q]
 have hcl : cntL [t, q] ≤ 2000000 := by rw [cntL_cons, cntL_cons, cntL_nil]; omega
 have hall : [t, q].all formT = true := by simp [hft, hfq]
 refine (union_ref hl (fun b h => h.2) (fun x hx => by have h1 := names_cnt x; have h2 := hfl.2 x hx; omega) (by have := hfl.1; omega)).mono ?_
 rintro e w' ⟨rs, rfl, hr, hb⟩
 rw [unionR (plain_form hall)] at hr
 exact ⟨rs, rfl, hr.weak fun b h => by
  rcases h with ⟨h | h, -⟩ | h
  ·exact .inl h
  ·exact .inr (.inl h)
  ·exact .inr (.inr h), hb⟩
theorem of14 (k : Int) (w : World) : Calls Tryz.prog 13 #[.int .i64 k] w fun e w' => e = .returned (.agg #[.int .i64 k, .string ⟨#[]⟩, .int .i64 0, .slice none 0 0, .slice none 0 0, .slice none 0 0]) ∧ Below w.heap.size w w' := by
 go_enter Tryz.func13, Tryz.ntmps13
 go_wp2_with fail
 exact bodyPost_ret (v := .agg #[.int .i64 k, .string ⟨#[]⟩, .int .i64 0, .slice none 0 0, .slice none 0 0, .slice none 0 0]) (by simp [results, Tryz.results13, go_sem]) rfl ⟨rfl, (Below.refl _ _).alloc (Nat.le_refl _) _⟩
theorem infer14 (s : ByteArray) (w : World) : Calls Tryz.prog 14 #[.string s] w fun e w' => e = .returned (.agg #[.int .i64 22, .string s, .int .i64 0, .slice none 0 0, .slice none 0 0, .slice none 0 0]) ∧ Below w.heap.size w w' := by
 go_enter Tryz.func14, Tryz.ntmps14
 go_wp2_with fail
 exact bodyPost_ret (v := .agg #[.int .i64 22, .string s, .int .i64 0, .slice none 0 0, .slice none 0 0, .slice none 0 0]) (by simp [results, Tryz.results14, go_sem]) rfl ⟨rfl, (Below.refl _ _).alloc (Nat.le_refl _) _⟩
theorem same14 {K K' : Nat → Prop} {w : World} {t q : Ty} {cs ds : List Value} (hr : RepT K w t cs) (hp : RepT K' w q ds) :
  Calls Tryz.prog 9 #[.agg cs.toArray, .agg ds.toArray] w fun e w' => e = .returned (.bool (ordT t q == 0)) ∧ Below w.heap.size w w' := by
 have KO := Hd fun wx (hx : Below w.heap.size w wx) => order_ref t K K' q wx cs ds (hr.later hx) (hp.later hx)
 generalize ordT t q = z at KO
 obtain ⟨k, s, n, ps, fs, vs⟩ := t
 obtain ⟨A, c, A', c', A'', c'', rfl, -⟩ := hr.inv
 obtain ⟨k3, s3, n3, ps3, fs3, vs3⟩ := q
 obtain ⟨A3, c3, B3, d3, C3, e3, rfl, -⟩ := hp.inv
 simp only [cells6T] at KO ⊢
 obtain ⟨w1, hw1⟩ : ∃ x, x = (w.alloc (.cells #[.int .i64 k, .string s, .int .i64 n, .slice A ps.length c, .slice A' fs.length c', .slice A'' vs.length c''] 26)).alloc (.cells #[.int .i64 k3, .string s3, .int .i64 n3, .slice A3 ps3.length c3, .slice B3 fs3.length d3, .slice C3 vs3.length e3] 26) := ⟨_, rfl⟩
 have hb1 : Below w.heap.size w w1 := by rw [hw1]; exact ((Below.refl _ _).alloc (Nat.le_refl _) _).alloc (by simp) _
 have hx0 : w1.heap[w.heap.size]? = some (.cells #[.int .i64 k, .string s, .int .i64 n, .slice A ps.length c, .slice A' fs.length c', .slice A'' vs.length c''] 26 (0, 0)) := by rw [hw1, Below.heap_alloc _ _ _ (by simp)]; exact heap_alloc_new w _
 have hy0 : w1.heap[w.heap.size + 1]? = some (.cells #[.int .i64 k3, .string s3, .int .i64 n3, .slice A3 ps3.length c3, .slice B3 fs3.length d3, .slice C3 vs3.length e3] 26 (0, 0)) := by
  rw [hw1]
  have h := heap_alloc_new (w.alloc (.cells #[.int .i64 k, .string s, .int .i64 n, .slice A ps.length c, .slice A' fs.length c', .slice A'' vs.length c''] 26)) (.cells #[.int .i64 k3, .string s3, .int .i64 n3, .slice A3 ps3.length c3, .slice B3 fs3.length d3, .slice C3 vs3.length e3] 26)
  rw [World.size_alloc] at h
  exact h
 have HB1 := Hd hb1
 have HX0 := Hd hx0
 have HY0 := Hd hy0
 have HW1 := Hd hw1
 clear hr hp hb1 hx0 hy0 hw1
 go_enter Tryz.func9, Tryz.ntmps9
 go_upto_region 1 with fail
 rw [← HW1.out]
 obtain ⟨x0, x1, x2, x3, x4, x5⟩ := cz6 HX0.out
 obtain ⟨y0, y1, y2, y3, y4, y5⟩ := cz6 HY0.out
 go_wp2_with fail
 refine (KO.out _ HB1.out).mono ?_
 rintro e w2 ⟨rfl, hg⟩
 have HB2 := Hd (HB1.out.trans (hg.below.mono HB1.out.size))
 clear hg KO x0 x1 x2 x3 x4 x5 y0 y1 y2 y3 y4 y5
 go_wp2_with fail
 go_ret
 exact ⟨rfl, HB2.out⟩
theorem nilF4 (K : Nat → Prop) (w : World) : ListF K w [] none 0 := ⟨⟨0, 0, ⟨by simp, by decide, fun _ => rfl, fun h => absurd h (by simp)⟩, fun i h => absurd h (by simp)⟩⟩
theorem nilV4 (K : Nat → Prop) (w : World) : ListV K w [] none 0 := ⟨⟨0, 0, ⟨by simp, by decide, fun _ => rfl, fun h => absurd h (by simp)⟩, fun i h => absurd h (by simp)⟩⟩
theorem nilT4 (K : Nat → Prop) (w : World) : ListT K w [] none 0 := ⟨⟨0, 0, ⟨by simp, by decide, fun _ => rfl, fun h => absurd h (by simp)⟩, fun i h => absurd h (by simp)⟩⟩
theorem rep_arr {K : Nat → Prop} {w : World} {q : Ty} {cs : List Value} {g : Nat} (hq : RepT K w q cs) (hlo : ∀ b, K b → b < w.heap.size) (hh : w.heap[g]? = some (.cells cs.toArray 26 (0, 0))) :
  RepT (fun b => b < w.heap.size) w (arrT q) [.int .i64 11, .string ⟨#[]⟩, .int .i64 0, .slice (some ⟨g, 0, none⟩) 1 1, .slice none 0 0, .slice none 0 0] :=
 RepT.of (by decide) ((list_lit hq (Below.refl _ _) hlo hh).weak fun b hb => hb.elim (hlo b) fun e => e ▸ (Array.getElem?_eq_some_iff.1 hh).1) (nilF4 _ w) (nilV4 _ w)
theorem rep_inf (K : Nat → Prop) (w : World) (s : ByteArray) (hs : s.size ≤ 1000000000000000) : RepT K w (infV s) [.int .i64 22, .string s, .int .i64 0, .slice none 0 0, .slice none 0 0, .slice none 0 0] :=
 RepT.of hs (nilT4 K w) (nilF4 K w) (nilV4 K w)
def vB : ByteArray := ⟨#[86]⟩
theorem name_v : nameT vB = true := by kernel_rfl
theorem formed_of {t : Ty} (h : formT t = true) (hc : cntT t ≤ 4096) : formedT t = true := by unfold formedT; rw [h, decide_eq_true hc]; rfl
theorem std_one {t : Ty} (h : formT t = true) : stdT [t] = t := by unfold stdT; rw [if_neg (by simp)]; exact union_self h
end Go.Proofs.YtjbccjmpebgdjaaGreatDoor
