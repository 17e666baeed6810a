import Derived.Test.YtogoolpgajopcaaTrE
namespace Go.Proofs.Ytogoolpgajopcaa
open Go.RowKit
theorem name_prog (t : ByteArray) (w : World) : Calls Try.prog 27 #[.string t] w fun e w' => e = .returned (.agg #[.int .i64 1, .string t, .int .i64 0, .int .i64 0, .int .i64 0, .slice none 0 0]) ∧ Below w.heap.size w w' := by
  go_enter Try.func27, Try.ntmps27
  go_wp2_with fail
  exact bodyPost_ret (v := .agg #[.int .i64 1, .string t, .int .i64 0, .int .i64 0, .int .i64 0, .slice none 0 0]) (by simp [results, Try.results27, go_sem]) rfl ⟨rfl, (Below.refl _ _).alloc (Nat.le_refl _) _⟩
theorem PU_holds (w : World) : Holds (w.alloc (.cells #[.int .i64 1, .string numberS, .int .i64 0, .int .i64 0, .int .i64 0, .slice none 0 0, .int .i64 1, .string nullS, .int .i64 0, .int .i64 0, .int .i64 0, .slice none 0 0] 24)) (w.heap.size + 1) PU (some ⟨w.heap.size, 0, none⟩) 0 := by
  have key : ∀ i : Nat, (w.alloc (.cells #[.int .i64 1, .string numberS, .int .i64 0, .int .i64 0, .int .i64 0, .slice none 0 0, .int .i64 1, .string nullS, .int .i64 0, .int .i64 0, .int .i64 0, .slice none 0 0] 24)).cell? ⟨w.heap.size, i, none⟩ = (#[.int .i64 1, .string numberS, .int .i64 0, .int .i64 0, .int .i64 0, .slice none 0 0, .int .i64 1, .string nullS, .int .i64 0, .int .i64 0, .int .i64 0, .slice none 0 0] : Array Value)[i]? := fun i => cell_of_row _ _ _ _ _ _ (heap_alloc_new w _)
  refine ⟨⟨_, none, 0, rfl, Nat.lt_succ_self _, fun j u hu => ?_, Nat.le_refl _, by omega, by decide, trivial⟩, ⟨⟨_, none, 0, rfl, Nat.lt_succ_self _, fun j u hu => ?_, Nat.le_refl _, by omega, by decide, trivial⟩, trivial⟩⟩
  · match j, hu with
    | 0, hu => exact (key 0).trans hu
    | 1, hu => exact (key 1).trans hu
    | 2, hu => exact (key 2).trans hu
    | 3, hu => exact (key 3).trans hu
    | 4, hu => exact (key 4).trans hu
    | 5, hu => exact (key 5).trans hu
    | j + 6, hu => simp [cells6] at hu
  · match j, hu with
    | 0, hu => exact (key 6).trans hu
    | 1, hu => exact (key 7).trans hu
    | 2, hu => exact (key 8).trans hu
    | 3, hu => exact (key 9).trans hu
    | 4, hu => exact (key 10).trans hu
    | 5, hu => exact (key 11).trans hu
    | j + 6, hu => simp [cells6] at hu
theorem PU_same : oneSame 9 ⟨#[]⟩ 0 0 PU 9 ⟨#[]⟩ 0 0 PU = true := by
  simp [oneSame, PU, Fo.same]
set_option maxHeartbeats 2000000 in
theorem awake_true (w : World) : Calls Try.prog 9 #[] w fun e w' => e = .returned (.bool true) ∧ Below w.heap.size w w' := by
  have KN := Lib.hid (fun t W => name_prog t W)
  go_enter Try.func9, Try.ntmps9
  go_wp2_with fail
  refine (KN.out _ _).mono ?_
  rintro e w1 ⟨rfl, hb1⟩
  have HB1 := Lib.hid hb1
  clear hb1
  go_wp2_with fail
  refine (KN.out _ _).mono ?_
  rintro e w2 ⟨rfl, hb2⟩
  have HB2 := Lib.hid (below_step HB1.out hb2)
  clear hb2
  have HP := Lib.hid (PU_holds w2)
  unfold numberS nullS at HP
  have SM := PU_same
  go_wp2_with fail
  generalize hW : World.alloc (World.alloc _ _) _ = W
  have hbx : Below w2.heap.size w2 W := by rw [← hW]; exact ((Below.refl _ _).alloc (Nat.le_refl _) _).alloc (by simp) _
  have HBx := Lib.hid (below_step HB2.out hbx)
  have hWs : W.heap.size = w2.heap.size + 2 := by rw [← hW]; simp
  have FB : Hid (∀ W', Below W.heap.size W W' → W'.cell? ⟨w2.heap.size + 1, 0, none⟩ = some (.int .i64 9) ∧ W'.cell? ⟨w2.heap.size + 1, 1, none⟩ = some (.string ⟨#[]⟩) ∧ W'.cell? ⟨w2.heap.size + 1, 2, none⟩ = some (.int .i64 0) ∧ W'.cell? ⟨w2.heap.size + 1, 3, none⟩ = some (.int .i64 0) ∧ W'.cell? ⟨w2.heap.size + 1, 4, none⟩ = some (.int .i64 0) ∧ W'.cell? ⟨w2.heap.size + 1, 5, none⟩ = some (.slice (some ⟨w2.heap.size, 0, none⟩) 2 2)) := Lib.hid (by
    subst hW
    exact fun W' h => ⟨(two_boxes h 0).2, (two_boxes h 1).2, (two_boxes h 2).2, (two_boxes h 3).2, (two_boxes h 4).2, (two_boxes h 5).2⟩)
  have HH : Hid (∀ W', Below W.heap.size W W' → Holds W' W'.heap.size PU (some ⟨w2.heap.size, 0, none⟩) 0) := Lib.hid (fun W' h => by
    have h1 := HP.out
    have h2 : Below (w2.heap.size + 1) (w2.alloc (.cells #[.int .i64 1, .string ⟨#[110, 117, 109, 98, 101, 114]⟩, .int .i64 0, .int .i64 0, .int .i64 0, .slice none 0 0, .int .i64 1, .string ⟨#[110, 117, 108, 108]⟩, .int .i64 0, .int .i64 0, .int .i64 0, .slice none 0 0] 24)) W := by rw [← hW]; exact (Below.refl _ _).alloc (by simp) _
    exact ((h1.below h2).below (h.mono (by omega))).more (by have := h.size; omega))
  clear hW HP hbx
  rw [show PU = PU from rfl] at SM
  have KT := Lib.hid (fun W' (h : Below W.heap.size W W') => utype_prog (some ⟨w2.heap.size, 0, none⟩) 2 W' (HH.out W' h))
  have KE := Lib.hid (fun W' => uexpr_prog (some ⟨w2.heap.size, 0, none⟩) 2 W')
  have KC := Lib.hid (fun W' (h : Below W.heap.size W W') => nodes_prog PU 9 ⟨#[]⟩ 0 0 0 (some ⟨w2.heap.size, 0, none⟩) 2 W' (HH.out W' h) (by decide))
  have KS := Lib.hid (fun W' (h : Below W.heap.size W W') => same_prog PU 9 ⟨#[]⟩ 0 0 0 (some ⟨w2.heap.size, 0, none⟩) 2 9 ⟨#[]⟩ 0 0 0 PU (some ⟨w2.heap.size, 0, none⟩) 2 W' (HH.out W' h) (by decide) (HH.out W' h) (by decide))
  rw [show (cap20 (1 + PU.nodes) : Nat) = 3 from by decide] at KC
  rw [SM] at KS
  rw [show PU.len = 2 from rfl] at KC KS
  simp only [val6, cells6] at KC KS
  clear SM
  refine (KT.out _ (Below.refl _ _)).mono ?_
  rintro e w3 ⟨rfl, hb⟩
  have HB3 := Lib.hid (below_step (Below.refl W.heap.size W) hb)
  obtain ⟨c0, c1, c2, c3, c4, c5⟩ := FB.out _ HB3.out
  clear hb
  go_wp2_with fail
  refine (KE.out _).mono ?_
  rintro e w4 ⟨rfl, hb⟩
  have HB4 := Lib.hid (below_step HB3.out hb)
  obtain ⟨c0, c1, c2, c3, c4, c5⟩ := FB.out _ HB4.out
  clear hb
  go_wp2_with fail
  refine (KC.out _ HB4.out).mono ?_
  rintro e w5 ⟨rfl, hb⟩
  have HB5 := Lib.hid (below_step HB4.out hb)
  obtain ⟨c0, c1, c2, c3, c4, c5⟩ := FB.out _ HB5.out
  clear hb
  go_wp2_with fail
  refine (KS.out _ HB5.out).mono ?_
  rintro e w6 ⟨rfl, hb⟩
  have HB6 := Lib.hid (below_step HB5.out hb)
  clear hb
  go_wp2_with fail
  go_ret
  exact ⟨rfl, below_step HBx.out HB6.out⟩
end Go.Proofs.Ytogoolpgajopcaa
