import Derived.Test.YtlgklkokadbpeaaDoorStU
import Derived.Laws.StructEq
import Derived.Deep.QuietTactic
import Derived.BigQuiet
namespace Go.Proofs.YtlgklkokadbpeaaDoor
open Go.RowKit Go.Maps Go.ChangeMaps Go.Sort
/-- A list of files as an own row: its files' cells. -/
theorem row_at {W : World} {B : Nat} {A : Option Addr} {c : Nat} {L : List Fi} (h : W.ownsRow B 45 3 (.slice A L.length c) L.length (flat3 L)) {j : Nat} {f : Fi} (hj : L[j]? = some f) : ∃ ad : Addr, A = some ad ∧ W.cell? (ad.add (j * 3)) = some (.string f.n) ∧ W.cell? ⟨(ad.add (j * 3)).block, (ad.add (j * 3)).off + 1, none⟩ = some (.string f.t) ∧ W.cell? ⟨(ad.add (j * 3)).block, (ad.add (j * 3)).off + 2, none⟩ = some (.int .i64 f.v) := by
  have hlt : j < L.length := (List.getElem?_eq_some_iff.1 hj).1
  obtain ⟨g, rfl⟩ : ∃ g, A = some ⟨g, 0, none⟩ := by
    rcases h.2 with ⟨_, h2⟩ | ⟨g, cap, cur, h, _⟩
    · omega
    · exact ⟨g, by injection h⟩
  have e : ((⟨g, 0, none⟩ : Addr).add (j * 3)) = ⟨g, j * 3, none⟩ := by unfold Addr.add; by_cases h : j * 3 = 0 <;> simp [h]
  refine ⟨⟨g, 0, none⟩, rfl, ?_, ?_, ?_⟩ <;> rw [e]
  · rw [h.cellAt (j * 3) (by omega)]; exact flat3_at L j 0 f hj (by omega)
  · rw [h.cellAt (j * 3 + 1) (by omega)]; exact flat3_at L j 1 f hj (by omega)
  · rw [h.cellAt (j * 3 + 2) (by omega)]; exact flat3_at L j 2 f hj (by omega)
set_option maxRecDepth 100000 in
set_option maxHeartbeats 2000000 in
/-- Same, of two rows that read as the same files. -/
theorem same_any {W : World} {B B' : Nat} {A A' : Option Addr} {c c' : Nat} {L : List Fi} (hL : L.length ≤ 1000) (h : W.ownsRow B 45 3 (.slice A L.length c) L.length (flat3 L)) (h' : W.ownsRow B' 45 3 (.slice A' L.length c') L.length (flat3 L)) :
    Calls Tryd.prog 20 #[.slice A L.length c, .slice A' L.length c'] W fun e w' => e = .returned (.bool true) ∧ Below W.heap.size W w' := by
  have H := Lib.hid h
  have H' := Lib.hid h'
  clear h h'
  go_enter Tryd.func20, Tryd.ntmps20
  go_wp2_with fail
  go_loopw [5] (fun v wr => ∃ j : Nat, j ≤ L.length ∧ v = .int .i64 j ∧ Go.RowKit.Below W.heap.size W wr) (fun v _ => L.length - (intOf v).toNat)
  case atStart => exact ⟨0, by omega, rfl, Go.RowKit.Below.refl _ _⟩
  case round =>
    obtain ⟨j, hj, rfl, hB⟩ := hrel
    have HB := Lib.hid hB
    by_cases hlt : j < L.length
    case neg =>
      obtain rfl : j = L.length := by omega
      have tj : decide ((L.length : Int) < (L.length : Int)) = false := by simp
      clear hB hlt
      go_wp2_with fail
      go_ret
      exact ⟨rfl, HB.out⟩
    obtain ⟨f, hf⟩ : ∃ f, L[j]? = some f := ⟨L[j], by simp [hlt]⟩
    obtain ⟨ad, rfl, c0, c1, c2⟩ := row_at (own_later3 H.out hB) hf
    obtain ⟨ad', rfl, d0, d1, d2⟩ := row_at (own_later3 H'.out hB) hf
    obtain ⟨fn, ft, fv⟩ := f
    simp only at c0 c1 c2 d0 d1 d2
    have tj : decide ((j : Int) < (L.length : Int)) = true := by simp; omega
    have tj2 : (j : Int) < (L.length : Int) := by omega
    clear hB hf
    go_wp2_with fail
    go_quiet (fail)
    go_wp2_with fail
    go_roundw
    case rel => exact ⟨j + 1, by omega, by go_num, HB.out.trans ((below_drewN (Go.RowKit.Below.refl _ _) _).mono (HB.out.size))⟩
    case measure => simp [intOf]; omega
end Go.Proofs.YtlgklkokadbpeaaDoor
