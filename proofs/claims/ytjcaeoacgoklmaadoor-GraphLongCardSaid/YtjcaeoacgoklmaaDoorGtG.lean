import Derived.Test.YtjcaeoacgoklmaaDoorGtF
import Derived.Test.YtjcaeoacgoklmaaDoorBg
namespace Go.Proofs.YtjcaeoacgoklmaaDoor
open Go.RowKit
set_option maxRecDepth 100000 in
set_option maxHeartbeats 8000000 in
theorem ask_kept {L : RL} {k : Nat} {t : ByteArray} {xs : Nat → RC} {us : List ByteArray} {uv : Value} {W : World} (h : RG L k t xs us uv W) (hk : k ≤ 24) (hu : us.length ≤ 1000) {i : Nat} (hi : i < k) (hs : nmB i ∉ us) (hx : (xs i).kept = true) (hn : (xs i).seen = 1) :
    Calls Tryd.prog 11 #[.pointer (some ⟨L.G, 0, none⟩), .string (nmB i)] W fun e W' => e = .returned (.agg #[.string (xs i).last.t, .int .i64 (xs i).last.e]) ∧ Below W.heap.size W W' := by
  have hb : Below W.heap.size W (W.alloc (.cells #[.string ⟨#[]⟩, .int .i64 0] 40)) := (Below.refl _ _).alloc (Nat.le_refl _) _
  have h1 := h.later hb
  have KR := Lib.hid (h1.rule hk (nmB i))
  rw [nm_miss hk hi] at KR
  obtain ⟨A, c, rfl, hf⟩ := h1.under hu hs
  have KF := Lib.hid hf
  obtain ⟨cb, hc⟩ := h1.cA_some (by omega)
  have g0 := h1.cellG 0
  have g3 := h1.cellG 3
  have g4 := h1.cellG 4
  have c4 := h1.cell hc (o := 4) hi (by omega)
  have c7 := h1.cell hc (o := 7) hi (by omega)
  have c8 := h1.cell hc (o := 8) hi (by omega)
  have c10 := h1.cell hc (o := 10) hi (by omega)
  rw [hc] at g0
  simp only [rcCells, List.getElem?_toArray, List.getElem?_cons_succ, List.getElem?_cons_zero, hx, hn] at g0 g3 g4 c4 c7 c8 c10
  have ti : decide ((0 : Int) ≤ (i : Int)) = true := by simp
  have tj : decide ((i : Int) < (0 : Int)) = false := by simp
  have tk : (i : Int) < (k : Int) := by omega
  have HI := Lib.hid hi
  clear h1 h hf hx hn hi hk hu
  go_enter Tryd.func11, Tryd.ntmps11
  go_wp2_with fail
  refine KR.out.mono ?_
  rintro e w1 ⟨rfl, rfl⟩
  go_wp2_with fail
  refine KF.out.mono ?_
  rintro e w1 ⟨rfl, rfl⟩
  go_wp2_with fail
  go_quiet (fail)
  go_wp2_with fail
  exact bodyPost_ret (v := .agg #[.string (xs i).last.t, .int .i64 (xs i).last.e]) (by simp [results, Tryd.results11, go_sem]) rfl ⟨rfl, ((below_drewN hb _).setCell (Nat.le_refl _) _).setCell (Nat.le_refl _) _⟩
end Go.Proofs.YtjcaeoacgoklmaaDoor
