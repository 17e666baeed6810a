import Derived.Test.YtjcaeoacgoklmaaDoorGtE
import Derived.LoopTactic
import Derived.BigQuiet
namespace Go.Proofs.YtjcaeoacgoklmaaDoor
open Go.RowKit
theorem RG.rule {L : RL} {k : Nat} {t : ByteArray} {xs : Nat → RC} {us : List ByteArray} {uv : Value} {W : World} (h : RG L k t xs us uv W) (hk : k ≤ 24) (s : ByteArray) :
    Calls Tryd.prog 16 #[.pointer (some ⟨L.G, 0, none⟩), .string s] W fun e w' => e = .returned (.int .i64 (ixF nmB k s)) ∧ w' = W := by
  rcases Nat.eq_zero_or_pos k with h0 | h0
  · subst h0
    exact rule_any (g := 0) (by omega) (h.cellG 0) (fun h => absurd h (by omega)) (fun j hj => by omega) s
  · obtain ⟨cb, hc⟩ := h.cA_some h0
    exact rule_any (g := cb) (by omega) (h.cellG 0) (fun _ => hc) (fun j hj => h.cell hc (o := 0) hj (by omega)) s
theorem RG.under {L : RL} {k : Nat} {t : ByteArray} {xs : Nat → RC} {us : List ByteArray} {uv : Value} {W : World} (h : RG L k t xs us uv W) (hu : us.length ≤ 1000) {s : ByteArray} (hs : s ∉ us) :
    ∃ A c, uv = .slice A us.length c ∧ Calls Tryd.prog 17 #[.slice A us.length c, .string s] W fun e w' => e = .returned (.int .i64 (-1)) ∧ w' = W := by
  have hA : ∃ A c, uv = .slice A us.length c ∧ ∃ g, (0 < us.length → A = some ⟨g, 0, none⟩) ∧ ∀ j, j < us.length → W.cell? ⟨g, j, none⟩ = some (.string (us.getD j noneB)) := by
    have hr := h.und
    rcases hr.2 with ⟨hv, hn⟩ | ⟨g, cap, cur, hv, _⟩
    · exact ⟨none, 0, by rw [hv, hn], 0, fun h => by omega, fun j hj => by omega⟩
    · refine ⟨_, cap, hv, g, fun _ => rfl, fun j hj => ?_⟩
      rw [hv] at hr
      rw [hr.cellAt j (by omega), List.getElem?_map, getD_of hj]
      rfl
  obtain ⟨A, c, hv, g, h1, h2⟩ := hA
  refine ⟨A, c, hv, ?_⟩
  have hm : ixF (fun j => us.getD j noneB) us.length s = -1 := ixF_miss fun j hj he => hs (by
    rw [← he]
    exact List.mem_of_getElem? (getD_of hj))
  have := find_any (W := W) (A := A) (c := c) (by omega) h1 h2 s
  rw [hm] at this
  exact this
theorem nm_miss {k i : Nat} (hk : k ≤ 24) (hi : i < k) : ixF nmB k (nmB i) = (i : Int) := ixF_hit hi rfl fun j hj he => by have := nm_inj (by omega) (by omega) he; omega
theorem nm_x (k : Nat) : ixF nmB k ⟨#[120]⟩ = -1 := ixF_miss fun j _ he => absurd (congrArg ByteArray.size he) (by simp [nmB, ByteArray.size])
set_option maxRecDepth 100000 in
set_option maxHeartbeats 4000000 in
theorem ask_x {L : RL} {k : Nat} {t : ByteArray} {xs : Nat → RC} {us : List ByteArray} {uv : Value} {W : World} (h : RG L k t xs us uv W) (hk : k ≤ 24) :
    Calls Tryd.prog 11 #[.pointer (some ⟨L.G, 0, none⟩), .string ⟨#[120]⟩] W fun e W' => e = .returned (.agg #[.string t, .int .i64 0]) ∧ Below W.heap.size W W' := by
  have hb : Below W.heap.size W (W.alloc (.cells #[.string ⟨#[]⟩, .int .i64 0] 40)) := (Below.refl _ _).alloc (Nat.le_refl _) _
  have h1 := h.later hb
  have KR := Lib.hid (h1.rule hk ⟨#[120]⟩)
  rw [nm_x] at KR
  have KF := Lib.hid (find_any (W := W.alloc (.cells #[.string ⟨#[]⟩, .int .i64 0] 40)) (A := some ⟨L.nb, 0, none⟩) (g := L.nb) (n := 1) (c := L.nc) (f := fun _ => ⟨#[120]⟩) (by omega) (fun _ => rfl) (fun j hj => by
    obtain rfl : j = 0 := by omega
    exact h1.nm) ⟨#[120]⟩)
  rw [ixF_hit (k := 0) (by omega) rfl (fun j hj => by omega)] at KF
  have g1 := h1.cellG 1
  have g2 := h1.cellG 2
  have tx := h1.tx
  simp only [List.getElem?_toArray, List.getElem?_cons_succ, List.getElem?_cons_zero] at g1 g2
  clear h1 h
  go_enter Tryd.func11, Tryd.ntmps11
  go_wp2_with fail
  refine KR.out.mono ?_
  rintro e w1 ⟨rfl, rfl⟩
  go_wp2_with fail
  refine KF.out.mono ?_
  rintro e w1 ⟨rfl, rfl⟩
  go_wp2_with fail
  exact bodyPost_ret (v := .agg #[.string t, .int .i64 0]) (by simp [results, Tryd.results11, go_sem]) rfl ⟨rfl, (Below.refl _ _).alloc (Nat.le_refl _) _⟩
end Go.Proofs.YtjcaeoacgoklmaaDoor
