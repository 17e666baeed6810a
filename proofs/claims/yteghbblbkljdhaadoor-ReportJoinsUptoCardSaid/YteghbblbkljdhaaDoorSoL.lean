import Derived.Test.YteghbblbkljdhaaDoorSoK
import Derived.Laws.AppendOwnNone
import Derived.Maps.OwnSet
import Derived.Laws.Cover3
namespace Go.Proofs.YteghbblbkljdhaaDoor
open Go.RowKit
def cells4 (d : DiagD) : List Value := [.string d.f, .int .i64 d.a, .int .i64 d.c, .string d.t]
/-- The cells of the first n. -/
def flat4 (f : Nat → DiagD) : Nat → List Value
  | 0 => []
  | n + 1 => flat4 f n ++ cells4 (f n)
theorem flat4_len (f : Nat → DiagD) : ∀ n, (flat4 f n).length = n * 4
  | 0 => by simp [flat4]
  | n + 1 => by rw [flat4, List.length_append, flat4_len f n]; simp [cells4]; omega
theorem flat4_at (f : Nat → DiagD) : ∀ n k x, k < n → x < 4 → (flat4 f n)[k * 4 + x]? = (cells4 (f k))[x]?
  | 0, k, _, h, _ => by omega
  | n + 1, k, x, h, hx => by
    rw [flat4]
    by_cases hk : k = n
    · subst hk
      rw [List.getElem?_append_right (by rw [flat4_len]; omega), flat4_len, show k * 4 + x - k * 4 = x by omega]
    · rw [List.getElem?_append_left (by rw [flat4_len]; omega)]
      exact flat4_at f n k x (by omega) hx
theorem flat4_one (f : Nat → DiagD) : ∀ n u, u ∈ flat4 f n → u.oneCell' = true
  | 0, u, h => by simp [flat4] at h
  | n + 1, u, h => by
    rw [flat4] at h
    rcases List.mem_append.1 h with h | h
    · exact flat4_one f n u h
    · simp only [cells4, List.mem_cons, List.not_mem_nil, or_false] at h
      rcases h with rfl | rfl | rfl | rfl <;> rfl
/-- A slice of n Diags that is read. -/
def Src (w : World) (A : Option Addr) (n : Nat) (f : Nat → DiagD) : Prop :=
  n = 0 ∨ ∃ b off, A = some ⟨b, off, none⟩ ∧ b < w.heap.size ∧ ∀ j u, (flat4 f n)[j]? = some u → w.cell? ⟨b, off + j, none⟩ = some u
theorem Src.later {w w' : World} {A : Option Addr} {n : Nat} {f : Nat → DiagD} (h : Src w A n f) (hb : Below w.heap.size w w') : Src w' A n f := by
  rcases h with h | ⟨b, off, hA, hl, hc⟩
  · exact .inl h
  · exact .inr ⟨b, off, hA, Nat.lt_of_lt_of_le hl hb.size, fun j u hj => cell_later2 hb (hc j u hj)⟩
theorem Src.at {w : World} {A : Option Addr} {n : Nat} {f : Nat → DiagD} (h : Src w A n f) {k : Nat} (hk : k < n) : ∃ b off, A = some ⟨b, off, none⟩ ∧ w.cell? ⟨b, off + k * 4, none⟩ = some (.string (f k).f) ∧ w.cell? ⟨b, off + k * 4 + 1, none⟩ = some (.int .i64 (f k).a) ∧ w.cell? ⟨b, off + k * 4 + 2, none⟩ = some (.int .i64 (f k).c) ∧ w.cell? ⟨b, off + k * 4 + 3, none⟩ = some (.string (f k).t) := by
  rcases h with h | ⟨b, off, hA, hl, hc⟩
  · omega
  · exact ⟨b, off, hA, hc (k * 4) _ (flat4_at f n k 0 hk (by omega)), hc (k * 4 + 1) _ (flat4_at f n k 1 hk (by omega)), hc (k * 4 + 2) _ (flat4_at f n k 2 hk (by omega)), hc (k * 4 + 3) _ (flat4_at f n k 3 hk (by omega))⟩
theorem row_of_own {w : World} {base g n c : Nat} {f : Nat → DiagD} (h : w.ownsRow base 55 4 (.slice (some ⟨g, 0, none⟩) n c) n (flat4 f n)) : Row w g n f := by
  refine ⟨fun k hk => ?_, fun k hk => ?_, fun k hk => ?_, fun k hk => ?_, fun k => h.frozenAt k⟩
  · rw [h.cellAt (k * 4) (by omega)]; exact flat4_at f n k 0 hk (by omega)
  · rw [h.cellAt (k * 4 + 1) (by omega)]; exact flat4_at f n k 1 hk (by omega)
  · rw [h.cellAt (k * 4 + 2) (by omega)]; exact flat4_at f n k 2 hk (by omega)
  · rw [h.cellAt (k * 4 + 3) (by omega)]; exact flat4_at f n k 3 hk (by omega)
theorem src_of_row {w : World} {g n : Nat} {f : Nat → DiagD} (h : Row w g n f) (hg : g < w.heap.size) : Src w (some ⟨g, 0, none⟩) n f := by
  refine .inr ⟨g, 0, rfl, hg, fun j u hj => ?_⟩
  rw [Nat.zero_add]
  have hlt : j < n * 4 := by have := (List.getElem?_eq_some_iff.1 hj).1; rwa [flat4_len] at this
  obtain ⟨k, x, hx, rfl⟩ : ∃ k x, x < 4 ∧ j = k * 4 + x := ⟨j / 4, j % 4, by omega, by omega⟩
  rw [flat4_at f n k x (by omega) hx] at hj
  have hk : k < n := by omega
  rcases x with _ | _ | _ | _ | x
  · rw [Nat.add_zero, h.c0 k hk]; exact hj
  · rw [h.c1 k hk]; exact hj
  · rw [h.c2 k hk]; exact hj
  · rw [h.c3 k hk]; exact hj
  · omega
theorem src_add {w : World} {b off n : Nat} {f : Nat → DiagD} (h : ∀ j u, (flat4 f n)[j]? = some u → w.cell? ⟨b, off + j, none⟩ = some u) : ∀ j u, (flat4 f n)[j]? = some u → w.cell? ((⟨b, off, none⟩ : Addr).add j) = some u := by
  intro j u hj
  have e : ((⟨b, off, none⟩ : Addr).add j) = ⟨b, off + j, none⟩ := by
    unfold Addr.add
    by_cases h2 : j = 0 <;> simp [h2]
  rw [e]
  exact h j u hj
theorem own_form4 {w : World} {base : Nat} {e : TypeId} {size n : Nat} {v : Value} {xs : List Value} (h : w.ownsRow base e size v n xs) : ∃ A c, v = .slice A n c := by
  rcases h.2 with ⟨rfl, rfl⟩ | ⟨g, cap, cur, rfl, _⟩
  · exact ⟨none, 0, rfl⟩
  · exact ⟨_, cap, rfl⟩
theorem infoD : (Tryd.prog.info? 55).map (fun i => (i.zero, i.size, i.bytes)) = some (some (.agg #[.string ⟨#[]⟩, .int .i64 0, .int .i64 0, .string ⟨#[]⟩]), 4, 48) := by kernel_rfl
theorem info_partsD {P : Program} {t : TypeId} {z : Option Value} {s b : Nat} (h : (P.info? t).map (fun i => (i.zero, i.size, i.bytes)) = some (z, s, b)) : ∃ i, P.info? t = some i ∧ i.zero = z ∧ i.size = s ∧ i.bytes = b := by
  cases hi : P.info? t with
  | none => rw [hi] at h; cases h
  | some i => rw [hi] at h; simp at h; exact ⟨i, rfl, h.1, h.2.1, h.2.2⟩
theorem eql_nil (w : World) (a : Option Addr) (l c : Nat) : (binOp .eql 60 (.slice a l c) (.slice none 0 0)).run Tryd.prog w = .ok (.bool a.isNone) w := by
  simp [binOp, run_equal_slice_nil w 60 55 a l c Tryd.underlying60]
set_option maxRecDepth 100000 in
set_option maxHeartbeats 2000000 in
theorem clone_some (ad : Addr) (n c : Nat) (f : Nat → DiagD) (w : World) (hn : n ≤ 1000000) (h : ∀ j u, (flat4 f n)[j]? = some u → w.cell? (ad.add j) = some u) :
    Calls Tryd.prog 45 #[.slice (some ad) n c] w fun e w' => ∃ g c', e = .returned (.slice (some ⟨g, 0, none⟩) n c') ∧ w.heap.size ≤ g ∧ g < w'.heap.size ∧ n ≤ c' ∧ Row w' g n f ∧ Below w.heap.size w w' := by
  obtain ⟨i0, hi0, hz0, hz1, hz2⟩ := info_partsD infoD
  have HS := Lib.hid h
  have HN := Lib.hid hn
  have HL := Lib.hid (flat4_len f n)
  have HO := Lib.hid (flat4_one f n)
  have hq := eql_nil w (some ad) n c
  simp only [Option.isNone_some] at hq
  clear h hn
  go_enter Tryd.func45, Tryd.ntmps45
  have HE := Lib.hid (World.ownsRow_lit (base := w.heap.size) (e := 55) (size := 4) w #[] 0 (Nat.le_refl _) (by decide) rfl)
  go_wp2_with (at_builtin; go_loud (refine wpList_append_own _ rfl _ _ 60 rfl w.heap.size 55 i0 (.agg #[.string ⟨#[]⟩, .int .i64 0, .int .i64 0, .string ⟨#[]⟩]) 4 48 Tryd.underlying60 hi0 hz0 hz1 hz2 rfl (by decide) _ _ _ rfl HE.out ad n c (flat4 f n) rfl ?a0 ?a1 ?a2 ?a3 ?a4 ?a5 ?_))
  case a0 => exact HL.out
  case a1 => exact fun j u hj => cell_later2 ((Below.refl _ _).alloc (Nat.le_refl _) _) (HS.out j u hj)
  case a2 => exact HO.out
  case a3 => exact Nat.le_trans HN.out (by decide : 1000000 ≤ maxLen)
  case a4 => have := HN.out; omega
  intro v' w' hown hgrow hne
  obtain ⟨g, cap, hv, hbg, hgl, hnc, hrow⟩ : ∃ g cap, v' = .slice (some ⟨g, 0, none⟩) n cap ∧ w.heap.size ≤ g ∧ g < w'.heap.size ∧ n ≤ cap ∧ w'.ownsRow w.heap.size 55 4 (.slice (some ⟨g, 0, none⟩) n cap) n (flat4 f n) := by
    have h2 := hown.2
    rcases h2 with ⟨h3, h4⟩ | ⟨g, cap, cur, h3, h4, h5, h6, _⟩
    · exact absurd h3 hne
    · subst h3
      have hlt : g < w'.heap.size := by
        rcases Nat.lt_or_ge g w'.heap.size with hh | hh
        · exact hh
        · rw [Array.getElem?_eq_none hh] at h5; cases h5
      exact ⟨g, cap, rfl, h4, hlt, h6, hown⟩
  subst hv
  have hb : Below w.heap.size w w' := ((Below.refl w.heap.size w).alloc (Nat.le_refl _) (.cells #[] 55)).grown hgrow (by simp) (fun k hk => by simp [Value.ownBlock] at hk; omega)
  have HB := Lib.hid hb
  have HR := Lib.hid (row_of_own hrow)
  clear hown hgrow hne hb hrow
  go_wp2
  go_ret
  exact ⟨g, cap, rfl, hbg, hgl, hnc, HR.out, HB.out⟩
set_option maxRecDepth 100000 in
set_option maxHeartbeats 2000000 in
theorem clone_nil (w : World) :
    Calls Tryd.prog 45 #[.slice none 0 0] w fun e w' => e = .returned (.slice none 0 0) ∧ w = w' := by
  have hq := eql_nil w none 0 0
  simp only [Option.isNone_none] at hq
  go_enter Tryd.func45, Tryd.ntmps45
  go_wp2_with fail
  go_ret
  exact ⟨rfl, rfl⟩
end Go.Proofs.YteghbblbkljdhaaDoor
