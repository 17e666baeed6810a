import Derived.Test.YtnnjbgjhhbmfgaaGreatDoorTyS
namespace Go.Proofs.YtnnjbgjhhbmfgaaGreatDoor
open Go.RowKit
theorem rep_never (K : Nat → Prop) (w : World) : RepT K w (tyK 1) [.int .i64 1, .string ⟨#[]⟩, .int .i64 0, .slice none 0 0, .slice none 0 0, .slice none 0 0] :=
  RepT.of (by decide) ⟨⟨0, 0, ⟨by simp, by decide, fun _ => rfl, fun h => absurd h (by simp)⟩, fun i h => absurd h (by simp)⟩⟩ ⟨⟨0, 0, ⟨by simp, by decide, fun _ => rfl, fun h => absurd h (by simp)⟩, fun i h => absurd h (by simp)⟩⟩ ⟨⟨0, 0, ⟨by simp, by decide, fun _ => rfl, fun h => absurd h (by simp)⟩, fun i h => absurd h (by simp)⟩⟩
theorem six_other {b : Nat} (W : World) (y0 y1 y2 y3 y4 y5 : Value) {p : Addr} (h : p.block ≠ b) : ((((((W.setCell ⟨b, 0, none⟩ y0).setCell ⟨b, 1, none⟩ y1).setCell ⟨b, 2, none⟩ y2).setCell ⟨b, 3, none⟩ y3).setCell ⟨b, 4, none⟩ y4).setCell ⟨b, 5, none⟩ y5).cell? p = W.cell? p := by
  refine World.cell?_of_block ?_
  rw [Below.heap_setCell _ _ _ _ h, Below.heap_setCell _ _ _ _ h, Below.heap_setCell _ _ _ _ h, Below.heap_setCell _ _ _ _ h, Below.heap_setCell _ _ _ _ h, Below.heap_setCell _ _ _ _ h]
theorem dedup_len : ∀ l : List Ty, (dedupT l).length ≤ l.length
  | [] => Nat.le_refl _
  | [a] => Nat.le_refl _
  | a :: b :: l => by
    have ih := dedup_len (b :: l)
    rw [dedupT]
    split
    · exact Nat.le_trans ih (Nat.le_succ _)
    · simpa using ih
/-- A type that lay in an older world, where a box of that world's own was written meanwhile. -/
theorem rep_box {K : Nat → Prop} {w w1 W : World} {t : Ty} {cs : List Value} (h : RepT K w1 t cs) (hlo : ∀ b, K b → b < w.heap.size) (hb : Below w1.heap.size w1 W) (y0 y1 y2 y3 y4 y5 : Value) :
    RepT (fun b => K b ∨ w.heap.size ≤ b) ((((((W.setCell ⟨w.heap.size, 0, none⟩ y0).setCell ⟨w.heap.size, 1, none⟩ y1).setCell ⟨w.heap.size, 2, none⟩ y2).setCell ⟨w.heap.size, 3, none⟩ y3).setCell ⟨w.heap.size, 4, none⟩ y4).setCell ⟨w.heap.size, 5, none⟩ y5) t cs :=
  RepT.keep (fun _ h => .inl h) (fun b o v hk hc => by
    rw [six_other W y0 y1 y2 y3 y4 y5 (p := ⟨b, o, none⟩) (by have := hlo b hk; show b ≠ _; omega)]
    exact cell_stays hb hc) t cs h
theorem rep_many {K : Nat → Prop} {w w1 W : World} {g c : Nat} {dd : List Ty} (h : InT K w1 W g c dd) (hlo : ∀ b, K b → b < w.heap.size) (hb : Below w1.heap.size w1 W) (hg : w.heap.size < g) (hl : dd.length ≤ 1000000000000000) (y0 y1 y2 y3 y4 y5 : Value) :
    RepT (fun b => K b ∨ w.heap.size ≤ b) ((((((W.setCell ⟨w.heap.size, 0, none⟩ y0).setCell ⟨w.heap.size, 1, none⟩ y1).setCell ⟨w.heap.size, 2, none⟩ y2).setCell ⟨w.heap.size, 3, none⟩ y3).setCell ⟨w.heap.size, 4, none⟩ y4).setCell ⟨w.heap.size, 5, none⟩ y5) (.mk 15 emptyB 0 dd [] []) [.int .i64 15, .string ⟨#[]⟩, .int .i64 0, .slice (some ⟨g, 0, none⟩) dd.length dd.length, .slice none 0 0, .slice none 0 0] := by
  refine RepT.of (by decide) ⟨⟨g, 0, ⟨Nat.le_refl _, hl, (fun h => by cases h), fun _ => ⟨rfl, .inr (Nat.le_of_lt hg)⟩⟩, fun i hi => ?_⟩⟩ ⟨⟨0, 0, ⟨by simp, by decide, fun _ => rfl, fun h => absurd h (by simp)⟩, fun i h => absurd h (by simp)⟩⟩ ⟨⟨0, 0, ⟨by simp, by decide, fun _ => rfl, fun h => absurd h (by simp)⟩, fun i h => absurd h (by simp)⟩⟩
  obtain ⟨cs, h1, h2⟩ := h.reps i dd[i] (List.getElem?_eq_getElem hi)
  refine ⟨cs, fun j u hj => ?_, rep_box h1 hlo hb _ _ _ _ _ _⟩
  rw [six_other W y0 y1 y2 y3 y4 y5 (p := ⟨g, 0 + i * 6 + j, none⟩) (by show g ≠ _; omega), Nat.zero_add]
  exact h2 j u hj
theorem set_six_below {B b : Nat} {a W : World} (h : Below B a W) (hb : B ≤ b) (y0 y1 y2 y3 y4 y5 : Value) : Below B a ((((((W.setCell ⟨b, 0, none⟩ y0).setCell ⟨b, 1, none⟩ y1).setCell ⟨b, 2, none⟩ y2).setCell ⟨b, 3, none⟩ y3).setCell ⟨b, 4, none⟩ y4).setCell ⟨b, 5, none⟩ y5) :=
  (((((h.setCell hb y0).setCell hb y1).setCell hb y2).setCell hb y3).setCell hb y4).setCell hb y5
set_option maxRecDepth 100000 in
set_option maxHeartbeats 32000000 in
theorem union_any (hS : SortP) (hSN : SortN) (hC : CompP) (hCN : CompN) {K : Nat → Prop} {w : World} {l : List Ty} {A : Option Addr} {c : Nat} (hL : ListT K w l A c) (hbd : (flatU l).length ≤ 1099511627776) (hlo : ∀ b, K b → b < w.heap.size) :
    Calls Tryz.prog 7 #[.slice A l.length c] w (UnionPost K w l) := by
  have hb1 : Below w.heap.size w (w.alloc (.cells #[.int .i64 0, .string ⟨#[]⟩, .int .i64 0, .slice none 0 0, .slice none 0 0, .slice none 0 0] 26)) := (Below.refl _ _).alloc (Nat.le_refl _) _
  have KF := Lib.hid (flat_any l K (w.alloc (.cells #[.int .i64 0, .string ⟨#[]⟩, .int .i64 0, .slice none 0 0, .slice none 0 0, .slice none 0 0] 26)) ((w.alloc (.cells #[.int .i64 0, .string ⟨#[]⟩, .int .i64 0, .slice none 0 0, .slice none 0 0, .slice none 0 0] 26)).alloc (.cells #[.bool false, .bool false, .bool false, .bool false] 40)) A c (.slice none 0 0) [] (w.heap.size + 1) ⟨false, false, false, false⟩ (hL.later hb1) ((Below.refl _ _).alloc (Nat.le_refl _) _) (by simp) (by
    have h := heap_alloc_new (w.alloc (.cells #[.int .i64 0, .string ⟨#[]⟩, .int .i64 0, .slice none 0 0, .slice none 0 0, .slice none 0 0] 26)) (.cells #[.bool false, .bool false, .bool false, .bool false] 40)
    rw [World.size_alloc] at h
    exact h) ⟨⟨[], World.ownsRow_nil _ _ _ _, fun i h => absurd h (by simp)⟩⟩ (by simpa using hbd))
  have RB : Hid (∀ W, Below (w.alloc (.cells #[.int .i64 0, .string ⟨#[]⟩, .int .i64 0, .slice none 0 0, .slice none 0 0, .slice none 0 0] 26)).heap.size (w.alloc (.cells #[.int .i64 0, .string ⟨#[]⟩, .int .i64 0, .slice none 0 0, .slice none 0 0, .slice none 0 0] 26)) W → W.heap[w.heap.size]? = some (.cells #[.int .i64 0, .string ⟨#[]⟩, .int .i64 0, .slice none 0 0, .slice none 0 0, .slice none 0 0] 26 (0, 0))) := Lib.hid fun W hb => (hb.block w.heap.size (by simp)).trans (heap_alloc_new w _)
  have HB1 := Lib.hid hb1
  have HS := Lib.hid hS
  have HSN := Lib.hid hSN
  have HC := Lib.hid hC
  have HCN := Lib.hid hCN
  have HBD := Lib.hid hbd
  have HLO := Lib.hid hlo
  rw [seeL_kinds] at KF
  unfold UnionPost
  rw [show unionT l = shutU (sortT ((flatU l).filter (keepT (kindsOf (flatU l))))) from rfl]
  generalize kindsOf (flatU l) = hk at KF ⊢
  generalize flatU l = ts at KF HBD ⊢
  have hw1s : (w.alloc (.cells #[.int .i64 0, .string ⟨#[]⟩, .int .i64 0, .slice none 0 0, .slice none 0 0, .slice none 0 0] 26)).heap.size = w.heap.size + 1 := by simp
  have HW1 := Lib.hid hw1s
  clear hL hbd hlo hb1 hS hSN hC hCN hw1s
  obtain ⟨i0, hi0, hz0, hz1, hz2⟩ := partsT infoTy
  generalize hw1 : (w.alloc (.cells #[.int .i64 0, .string ⟨#[]⟩, .int .i64 0, .slice none 0 0, .slice none 0 0, .slice none 0 0] 26)) = w1 at KF RB HB1 HW1
  have HE1 := Lib.hid hw1
  clear hw1
  go_enter Tryz.func7, Tryz.ntmps7
  go_wp2_with fail
  rw [HE1.out]
  refine KF.out.mono ?_
  rintro e w3 ⟨v3, rfl, ho, hkb, hb3⟩
  rw [List.nil_append] at ho
  have HB3 := Lib.hid hb3
  have HKB := Lib.hid hkb
  rcases InT.of_out ho with ⟨rfl, rfl⟩ | ⟨g, cc, rfl, hg, hin⟩
  · clear KF ho hkb hb3
    go_wp2_with fail
    go_loopw [5, 14] (fun kv v wr => kv = .slice none 0 0 ∧ v = .int .i64 0 ∧ Below w1.heap.size w1 wr) (fun _ _ _ => 0)
    case atStart => exact ⟨rfl, rfl, HB3.out⟩
    case round =>
      obtain ⟨rfl, rfl, hbr⟩ := hrel
      have HBr := Lib.hid hbr
      clear hbr
      go_wp2_with fail
      refine (HSN.out _).mono ?_
      rintro e w5 ⟨rfl, hb5⟩
      have HB5 := Lib.hid (HBr.out.trans (hb5.mono HBr.out.size))
      clear hb5
      go_wp2_with fail
      refine (HCN.out _).mono ?_
      rintro e w6 ⟨rfl, hb6⟩
      have HB6 := Lib.hid (HB5.out.trans (hb6.mono HB5.out.size))
      clear hb6
      have rb := RB.out _ HB6.out
      have q0 := Lib.cell_of_heap rb 0
      have q1 := Lib.cell_of_heap rb 1
      have q2 := Lib.cell_of_heap rb 2
      have q3 := Lib.cell_of_heap rb 3
      have q4 := Lib.cell_of_heap rb 4
      have q5 := Lib.cell_of_heap rb 5
      have z0 := Lib.frozen_of_heap rb 0
      have z1 := Lib.frozen_of_heap rb 1
      have z2 := Lib.frozen_of_heap rb 2
      have z3 := Lib.frozen_of_heap rb 3
      have z4 := Lib.frozen_of_heap rb 4
      have z5 := Lib.frozen_of_heap rb 5
      have rs := six_set rb (.int .i64 1) (.string ⟨#[]⟩) (.int .i64 0) (.slice none 0 0) (.slice none 0 0) (.slice none 0 0)
      have r0 := Lib.cell_of_heap rs 0
      have r1 := Lib.cell_of_heap rs 1
      have r2 := Lib.cell_of_heap rs 2
      have r3 := Lib.cell_of_heap rs 3
      have r4 := Lib.cell_of_heap rs 4
      have r5 := Lib.cell_of_heap rs 5
      clear rb rs
      go_wp2_with fail
      refine bodyPost_ret (v := .agg #[.int .i64 1, .string ⟨#[]⟩, .int .i64 0, .slice none 0 0, .slice none 0 0, .slice none 0 0]) (by simp [results, Tryz.results7, go_sem, r0, r1, r2, r3, r4, r5]) rfl ?_
      clear r0 r1 r2 r3 r4 r5 q0 q1 q2 q3 q4 q5 z0 z1 z2 z3 z4 z5
      exact ⟨[.int .i64 1, .string ⟨#[]⟩, .int .i64 0, .slice none 0 0, .slice none 0 0, .slice none 0 0], rfl, rep_never _ _, set_six_below (below_then HB1.out HB6.out) (Nat.le_refl _) _ _ _ _ _ _⟩
  · have HIN := Lib.hid hin
    have HG := Lib.hid hg
    have hcap := hin.le
    have hmx := hin.mx
    unfold maxLen at hmx
    clear KF ho hkb hb3 hin hg
    go_wp2_with fail
    go_loopw [5, 14] (fun kv v wr => ∃ (i : Nat) (F : List Ty), v = .int .i64 i ∧ kv = .slice (some ⟨g, 0, none⟩) F.length cc ∧ KeepR K w1 wr (w.heap.size + 1) g cc hk ts i F) (fun _ v _ => ts.length - (intOf v).toNat)
    case atStart => exact ⟨0, [], rfl, rfl, by omega, by simp, HKB.out, HB3.out, by simpa using HIN.out⟩
    case round =>
      obtain ⟨i, F, rfl, rfl, hr⟩ := hrel
      have HR := Lib.hid hr
      by_cases hlt : i < ts.length
      · obtain ⟨cs, hrep, hcs⟩ := hr.at hlt
        have hfl := hr.fle
        have hnx := fun (wy : World) hkf hb => hr.next (w' := wy) hlt hkf hb
        have hpu := fun (wy : World) hb hk => hr.push (wy := wy) (cs := cs) hlt hk hb HG.out hrep
        have HNX := Lib.hid hnx
        have HPU := Lib.hid hpu
        have ti : decide ((i : Int) < (ts.length : Int)) = true := by simp; omega
        have wr2 : wrap64 ((i : Int) + 1) = ((i + 1 : Nat) : Int) := wrap_one (by have := HBD.out; omega)
        have HL := Lib.hid hlt
        generalize ts[i] = t at hrep HNX HPU
        obtain ⟨k, s, n, ps, fs, ws⟩ := t
        obtain ⟨Ap, cp, Af, cf, Av, cv, rfl, -⟩ := hrep.inv
        simp only [cells6T] at hcs hrep HPU
        have x0 : wr.cell? ⟨g, i * 6, none⟩ = some (.int .i64 k) := hcs 0 _ rfl
        have x1 := hcs 1 _ rfl
        have x2 := hcs 2 _ rfl
        have x3 := hcs 3 _ rfl
        have x4 := hcs 4 _ rfl
        have x5 := hcs 5 _ rfl
        have hbx : Below wr.heap.size wr (wr.alloc (.cells #[.int .i64 k, .string s, .int .i64 n, .slice Ap ps.length cp, .slice Af fs.length cf, .slice Av ws.length cv] 26)) := (Below.refl _ _).alloc (Nat.le_refl _) _
        have KK := Lib.hid (keep_any (K := K) (w := wr.alloc (.cells #[.int .i64 k, .string s, .int .i64 n, .slice Ap ps.length cp, .slice Af fs.length cf, .slice Av ws.length cv] 26)) (g := w.heap.size + 1) (h := hk) (t := .mk k s n ps fs ws) (b := wr.heap.size) (o := 0) (by
          unfold KB
          rw [hbx.block _ (Array.getElem?_eq_some_iff.1 HR.out.kb).1]
          exact HR.out.kb) (AtT.box _ (hrep.later (HR.out.below))))
        have HBx := Lib.hid hbx
        generalize hkt : keepT hk (.mk k s n ps fs ws) = q at KK HNX HPU
        clear hr hrep hcs hnx hpu hbx hkt
        go_wp2_with fail
        refine KK.out.mono ?_
        rintro e w5 ⟨rfl, rfl⟩
        have b0 := World.cell?_alloc_new wr #[.int .i64 k, .string s, .int .i64 n, .slice Ap ps.length cp, .slice Af fs.length cf, .slice Av ws.length cv] 26
        cases q with
        | false =>
          go_wp2_with fail
          refine ⟨⟨i + 1, F, by first | rfl | rw [wr2], rfl, HNX.out _ (by trivial) HBx.out⟩, ?_⟩
          first | exact measI HL.out | exact measT HL.out | (rw [wr2]; exact measI HL.out)
        | true =>
          have HB6 := Lib.hid (HBx.out.alloc (by simp) (.cells #[.int .i64 k, .string s, .int .i64 n, .slice Ap ps.length cp, .slice Af fs.length cf, .slice Av ws.length cv] 26))
          have HFl : Hid (F.length + 1 ≤ cc) := Lib.hid (by omega)
          have HC6 := Lib.hid (cellsT_new (wr.alloc (.cells #[.int .i64 k, .string s, .int .i64 n, .slice Ap ps.length cp, .slice Af fs.length cf, .slice Av ws.length cv] 26)) [.int .i64 k, .string s, .int .i64 n, .slice Ap ps.length cp, .slice Af fs.length cf, .slice Av ws.length cv] 26)
          rw [World.size_alloc] at HC6
          clear hfl x0 x1 x2 x3 x4 x5
          go_wp2_with (at_builtin; refine wpList_plain rfl fun K hK => ?_; go_loud (refine wp_append_room _ _ 22 rfl 26 i0 6 Tryz.underlying22 hi0 hz1 g 0 F.length cc rfl ⟨wr.heap.size + 1, 0, none⟩ 1 1 [.int .i64 k, .string s, .int .i64 n, .slice Ap ps.length cp, .slice Af fs.length cf, .slice Av ws.length cv] rfl rfl ?a0 ?a1 ?a2 (F.length * 6) (by omega) ?a3 ?_))
          case a0 => exact HC6.out
          case a1 =>
            intro u hu
            simp only [List.mem_cons, List.not_mem_nil, or_false] at hu
            rcases hu with rfl | rfl | rfl | rfl | rfl | rfl <;> rfl
          case a2 => exact HFl.out
          case a3 =>
            intro j hj
            have hj6 : j < 6 := hj
            exact (HR.out.row.later HB6.out).there (by have := HFl.out; omega)
          refine ⟨⟨i + 1, _, by first | rfl | rw [wr2], ?p1, HPU.out _ HB6.out (by trivial)⟩, ?_⟩
          case p1 => simp
          first | exact measI HL.out | exact measT HL.out | (rw [wr2]; exact measI HL.out)
      · have ti : decide ((i : Int) < (ts.length : Int)) = false := by simp; omega
        have HFf : Hid (F = ts.filter (keepT hk)) := Lib.hid (by rw [hr.f, List.take_of_length_le (by omega)])
        have HFl : Hid (F.length ≤ 1099511627776) := Lib.hid (by have h1 := hr.fle; have h2 := hr.le; have h3 := HBD.out; omega)
        have KS := Lib.hid (HS.out K w1 wr g cc F hr.row.pre hr.below HG.out HFl.out)
        clear hr
        go_wp2_with fail
        refine KS.out.mono ?_
        rintro e w5 ⟨rfl, hb5, s, hws, hmem, hlen, hin5⟩
        have KC := Lib.hid (HC.out K w1 w5 g cc s hin5 hb5 HG.out (by rw [hlen]; exact HFl.out))
        rw [hlen] at KC
        have HSD := Lib.hid (sort_dedup hws hmem)
        have HDl : Hid ((dedupT s).length ≤ 1099511627776) := Lib.hid (by have h1 := dedup_len s; have h2 := HFl.out; omega)
        clear hb5 hws hmem hlen hin5 KS
        go_wp2_with fail
        refine KC.out.mono ?_
        rintro e w6 ⟨rfl, hb6, hin6⟩
        have HB6 := Lib.hid hb6
        have HIN6 := Lib.hid hin6
        clear hb6 hin6 KC
        generalize dedupT s = d at HSD HDl HIN6
        cases d with
        | nil =>
          have rb := RB.out _ HB6.out
          have q0 := Lib.cell_of_heap rb 0
          have q1 := Lib.cell_of_heap rb 1
          have q2 := Lib.cell_of_heap rb 2
          have q3 := Lib.cell_of_heap rb 3
          have q4 := Lib.cell_of_heap rb 4
          have q5 := Lib.cell_of_heap rb 5
          have z0 := Lib.frozen_of_heap rb 0
          have z1 := Lib.frozen_of_heap rb 1
          have z2 := Lib.frozen_of_heap rb 2
          have z3 := Lib.frozen_of_heap rb 3
          have z4 := Lib.frozen_of_heap rb 4
          have z5 := Lib.frozen_of_heap rb 5
          have rs := six_set rb (.int .i64 1) (.string ⟨#[]⟩) (.int .i64 0) (.slice none 0 0) (.slice none 0 0) (.slice none 0 0)
          have r0 := Lib.cell_of_heap rs 0
          have r1 := Lib.cell_of_heap rs 1
          have r2 := Lib.cell_of_heap rs 2
          have r3 := Lib.cell_of_heap rs 3
          have r4 := Lib.cell_of_heap rs 4
          have r5 := Lib.cell_of_heap rs 5
          clear rb rs
          go_wp2_with fail
          refine bodyPost_ret (v := .agg #[.int .i64 1, .string ⟨#[]⟩, .int .i64 0, .slice none 0 0, .slice none 0 0, .slice none 0 0]) (by simp [results, Tryz.results7, go_sem, r0, r1, r2, r3, r4, r5]) rfl ?_
          clear r0 r1 r2 r3 r4 r5 q0 q1 q2 q3 q4 q5 z0 z1 z2 z3 z4 z5
          exact ⟨[.int .i64 1, .string ⟨#[]⟩, .int .i64 0, .slice none 0 0, .slice none 0 0, .slice none 0 0], rfl, by rw [← HFf.out, HSD.out]; exact rep_never _ _, set_six_below (below_then HB1.out HB6.out) (Nat.le_refl _) _ _ _ _ _ _⟩
        | cons x d =>
        cases d with
        | nil =>
          obtain ⟨cs, hrep, hcs⟩ := HIN6.out.reps 0 x rfl
          obtain ⟨k, s, n, ps, fs, ws⟩ := x
          obtain ⟨Ap, cp, Af, cf, Av, cv, rfl, -⟩ := hrep.inv
          simp only [cells6T] at hcs hrep
          have HREP := Lib.hid hrep
          have x0 : w6.cell? ⟨g, 0, none⟩ = some (.int .i64 k) := hcs 0 _ rfl
          have x1 : w6.cell? ⟨g, 1, none⟩ = some (.string s) := hcs 1 _ rfl
          have x2 : w6.cell? ⟨g, 2, none⟩ = some (.int .i64 n) := hcs 2 _ rfl
          have x3 : w6.cell? ⟨g, 3, none⟩ = some (.slice Ap ps.length cp) := hcs 3 _ rfl
          have x4 : w6.cell? ⟨g, 4, none⟩ = some (.slice Af fs.length cf) := hcs 4 _ rfl
          have x5 : w6.cell? ⟨g, 5, none⟩ = some (.slice Av ws.length cv) := hcs 5 _ rfl
          have hcap6 : 1 ≤ cc := HIN6.out.le
          clear hcs hrep
          have rb := RB.out _ HB6.out
          have q0 := Lib.cell_of_heap rb 0
          have q1 := Lib.cell_of_heap rb 1
          have q2 := Lib.cell_of_heap rb 2
          have q3 := Lib.cell_of_heap rb 3
          have q4 := Lib.cell_of_heap rb 4
          have q5 := Lib.cell_of_heap rb 5
          have z0 := Lib.frozen_of_heap rb 0
          have z1 := Lib.frozen_of_heap rb 1
          have z2 := Lib.frozen_of_heap rb 2
          have z3 := Lib.frozen_of_heap rb 3
          have z4 := Lib.frozen_of_heap rb 4
          have z5 := Lib.frozen_of_heap rb 5
          have rs := six_set rb (.int .i64 k) (.string s) (.int .i64 n) (.slice Ap ps.length cp) (.slice Af fs.length cf) (.slice Av ws.length cv)
          have r0 := Lib.cell_of_heap rs 0
          have r1 := Lib.cell_of_heap rs 1
          have r2 := Lib.cell_of_heap rs 2
          have r3 := Lib.cell_of_heap rs 3
          have r4 := Lib.cell_of_heap rs 4
          have r5 := Lib.cell_of_heap rs 5
          clear rb rs
          go_wp2_with fail
          refine bodyPost_ret (v := .agg #[.int .i64 k, .string s, .int .i64 n, .slice Ap ps.length cp, .slice Af fs.length cf, .slice Av ws.length cv]) (by simp [results, Tryz.results7, go_sem, r0, r1, r2, r3, r4, r5]) rfl ?_
          clear r0 r1 r2 r3 r4 r5 q0 q1 q2 q3 q4 q5 z0 z1 z2 z3 z4 z5
          exact ⟨[.int .i64 k, .string s, .int .i64 n, .slice Ap ps.length cp, .slice Af fs.length cf, .slice Av ws.length cv], rfl, by rw [← HFf.out, HSD.out]; exact rep_box HREP.out HLO.out HB6.out _ _ _ _ _ _, set_six_below (below_then HB1.out HB6.out) (Nat.le_refl _) _ _ _ _ _ _⟩
        | cons y d =>
          have hd0 : ((x :: y :: d).length : Int) ≠ 0 := by simp; omega
          have hd1 : ((x :: y :: d).length : Int) ≠ 1 := by simp; omega
          have te0 : (((x :: y :: d).length : Int) == 0) = false := by simpa using hd0
          have te1 : (((x :: y :: d).length : Int) == 1) = false := by simpa using hd1
          have KCl := Lib.hid (clip_any (some ⟨g, 0, none⟩) (x :: y :: d).length cc w6 HIN6.out.le)
          have HD2 : Hid (sortT F = x :: y :: d) := HSD
          have HDl2 : Hid ((x :: y :: d).length ≤ 1099511627776) := HDl
          have hun : shutU (x :: y :: d) = .mk 15 emptyB 0 (x :: y :: d) [] [] := rfl
          generalize x :: y :: d = dd at *
          have HUN := Lib.hid hun
          clear hd0 hd1 hun
          go_wp2_with fail
          refine KCl.out.mono ?_
          rintro e w7 ⟨rfl, rfl⟩
          clear KCl
          have rb := RB.out _ HB6.out
          have q0 := Lib.cell_of_heap rb 0
          have q1 := Lib.cell_of_heap rb 1
          have q2 := Lib.cell_of_heap rb 2
          have q3 := Lib.cell_of_heap rb 3
          have q4 := Lib.cell_of_heap rb 4
          have q5 := Lib.cell_of_heap rb 5
          have z0 := Lib.frozen_of_heap rb 0
          have z1 := Lib.frozen_of_heap rb 1
          have z2 := Lib.frozen_of_heap rb 2
          have z3 := Lib.frozen_of_heap rb 3
          have z4 := Lib.frozen_of_heap rb 4
          have z5 := Lib.frozen_of_heap rb 5
          have rs := six_set rb (.int .i64 15) (.string ⟨#[]⟩) (.int .i64 0) (.slice (some ⟨g, 0, none⟩) dd.length dd.length) (.slice none 0 0) (.slice none 0 0)
          have r0 := Lib.cell_of_heap rs 0
          have r1 := Lib.cell_of_heap rs 1
          have r2 := Lib.cell_of_heap rs 2
          have r3 := Lib.cell_of_heap rs 3
          have r4 := Lib.cell_of_heap rs 4
          have r5 := Lib.cell_of_heap rs 5
          clear rb rs
          go_wp2_with fail
          refine bodyPost_ret (v := .agg #[.int .i64 15, .string ⟨#[]⟩, .int .i64 0, .slice (some ⟨g, 0, none⟩) dd.length dd.length, .slice none 0 0, .slice none 0 0]) (by simp [results, Tryz.results7, go_sem, r0, r1, r2, r3, r4, r5]) rfl ?_
          clear r0 r1 r2 r3 r4 r5 q0 q1 q2 q3 q4 q5 z0 z1 z2 z3 z4 z5
          exact ⟨[.int .i64 15, .string ⟨#[]⟩, .int .i64 0, .slice (some ⟨g, 0, none⟩) dd.length dd.length, .slice none 0 0, .slice none 0 0], rfl, by rw [← HFf.out, HD2.out, HUN.out]; exact rep_many HIN6.out HLO.out HB6.out (by have h1 := HG.out; have h2 := HW1.out; omega) (by have := HDl2.out; omega) _ _ _ _ _ _, set_six_below (below_then HB1.out HB6.out) (Nat.le_refl _) _ _ _ _ _ _⟩
end Go.Proofs.YtnnjbgjhhbmfgaaGreatDoor
