import Derived.Test.YtlgklkokadbpeaaDoorStJ
namespace Go.Proofs.YtlgklkokadbpeaaDoor
open Go.RowKit Go.Maps Go.ChangeMaps Go.Sort
def cells3 (f : Fi) : List Value := [.string f.n, .string f.t, .int .i64 f.v]
def flat3 : List Fi → List Value
  | [] => []
  | f :: L => cells3 f ++ flat3 L
theorem flat3_snoc : ∀ (L : List Fi) (f : Fi), flat3 (L ++ [f]) = flat3 L ++ cells3 f
  | [], f => by simp [flat3]
  | g :: L, f => by rw [List.cons_append, flat3, flat3, flat3_snoc L f, List.append_assoc]
theorem own_form3 {w : World} {base : Nat} {e : TypeId} {size n : Nat} {v : Value} {xs : List Value} (h : w.ownsRow base e size v n xs) : ∃ A c, v = .slice A n c := by
  rcases h.2 with ⟨hv, hn⟩ | ⟨g, cap, cur, hv, _⟩
  · exact ⟨none, 0, by rw [hv, hn]⟩
  · exact ⟨_, cap, hv⟩
theorem look_f {W : World} {B : Nat → Prop} {b R : Nat} {L : List Fi} {n : Int} (h : Stm W B b R L n) (s : ByteArray) (hs : s.size ≤ maxLen) :
    ∀ W', Below W.heap.size W W' → (Instr.lookup 50 (.map (some R)) (.string s) false).run Tryd.prog W' = .ok ((find L s).getD zeroF).val W' := by
  intro W' hW
  obtain ⟨v, ps, hrun, hv⟩ := (own_below h.own hW).lookup (string_keyed Tryd.underlying9) Tryd.underlying50 (zeroFile W') (zd := zeroF.dat) (zp := []) rfl (key_of s hs)
  rw [at_dat] at hv
  rw [fileR_inv hv] at hrun
  exact hrun
theorem find_rise : ∀ (L : List Fi), Rise L → ∀ (j : Nat) (f : Fi), L[j]? = some f → find L f.n = some f
  | [], _, j, f, h => by simp at h
  | g :: L, hR, 0, f, h => by
    obtain rfl : g = f := by simpa using h
    unfold find
    rw [List.find?_cons]
    simp [lk, Lit.sameKey]
  | g :: L, hR, j + 1, f, h => by
    have h' : L[j]? = some f := by simpa using h
    unfold Rise at hR
    rw [List.map_cons, List.pairwise_cons] at hR
    have hlt : nm g < nm f := hR.1 (nm f) (List.mem_map.2 ⟨f, List.mem_of_getElem? h', rfl⟩)
    unfold find
    rw [List.find?_cons]
    have hne : (lk g.n).sameKey (lk f.n) = false := by
      unfold lk Lit.sameKey
      simp only [beq_eq_false_iff_ne, ne_eq]
      intro e
      exact absurd (show nm g = nm f from e) (fun e => by rw [e] at hlt; exact List.lt_irrefl _ hlt)
    rw [hne]
    exact find_rise L hR.2 j f h'
theorem enc_nm (f : Fi) : encStr (nm f) = .string f.n := by
  unfold encStr nm
  simp
theorem cell_three_new (w : World) (f : Fi) : ∀ j u, (cells3 f)[j]? = some u → (w.alloc (.cells (cells3 f).toArray 45)).cell? ((⟨w.heap.size, 0, none⟩ : Addr).add j) = some u := by
  intro j u hj
  have key : ∀ i : Nat, (w.alloc (.cells (cells3 f).toArray 45)).cell? ⟨w.heap.size, i, none⟩ = (cells3 f).toArray[i]? := fun i => cell_of_row _ _ _ _ _ _ (heap_alloc_new w _)
  rw [show ((⟨w.heap.size, 0, none⟩ : Addr).add j) = ⟨w.heap.size, j, none⟩ by unfold Addr.add; by_cases h : j = 0 <;> simp [h], key]
  simpa using hj
theorem three_one (f : Fi) : ∀ u ∈ cells3 f, u.oneCell' = true := by
  intro u hu
  simp only [cells3, List.mem_cons, List.not_mem_nil, or_false] at hu
  rcases hu with rfl | rfl | rfl <;> rfl
theorem flat3_take (L : List Fi) (j : Nat) (f : Fi) (h : L[j]? = some f) : flat3 (L.take (j + 1)) = flat3 (L.take j) ++ cells3 f := by
  rw [List.take_add_one, h]
  exact flat3_snoc _ _
theorem ownsRow_base3 {w : World} {base base' : Nat} {e : TypeId} {size n : Nat} {v : Value} {xs : List Value} (h : w.ownsRow base e size v n xs) (hb : base' ≤ base) : w.ownsRow base' e size v n xs := by
  refine ⟨h.1, ?_⟩
  rcases h.2 with h0 | ⟨g, cap, cur, hv, hbg, hg, h1, h2, h3, h4⟩
  · exact .inl h0
  · exact .inr ⟨g, cap, cur, hv, Nat.le_trans hb hbg, hg, h1, h2, h3, h4⟩
theorem small_max2 : 1000 ≤ maxLen := by decide
set_option maxRecDepth 100000 in
set_option maxHeartbeats 2000000 in
/-- All, where there is a map: the files, as they rise. -/
theorem all_some {W : World} {B : Nat → Prop} {b R : Nat} {L : List Fi} {n : Int} (h : Stm W B b R L n) (hR : Rise L) (hlen : L.length ≤ 1000) (hnm : ∀ f ∈ L, f.n.size ≤ maxLen) :
    Calls Tryd.prog 21 #[.pointer (some ⟨b, 0, none⟩)] W fun e w' => ∃ A c, e = .returned (.slice A L.length c) ∧ w'.ownsRow W.heap.size 45 3 (.slice A L.length c) L.length (flat3 L) ∧ Below W.heap.size W w' := by
  have KK := Lib.hid (callsIn_wide.1 (Tryd.maps_Keys_44 (some R) W))
  have KS := Lib.hid (callsIn_wide.1 (Tryd.slices_Sorted_keys_43_44 R L.length (dat L) fileR W h.own (by rw [size_dat]; exact Nat.le_trans hlen small_max2) (by rw [size_dat]; omega)))
  have HM := Lib.hid h
  have c1 := h.c1
  obtain ⟨i0, hi0, hz0, hz1, hz2⟩ := info_parts infoF
  clear h
  go_enter Tryd.func21, Tryd.ntmps21
  go_wp2_with (first
    | (go_at_call 44; refine KK.out.mono ?_; rintro e w' ⟨rfl, rfl⟩)
    | (go_at_call 43; refine KS.out.mono ?_; rintro e w2 ⟨v, ss, rfl, hS, hrow, hnil, hb⟩; rw [sorted_names L hR ss hS] at hrow; obtain ⟨A, c, rfl⟩ := own_form3 hrow; have hsl : ss.length = L.length := (hS.length_eq.trans (by rw [keys_dat, List.length_map])); rw [hsl] at hrow ⊢; have HRow := Lib.hid hrow; have hs2 : W.heap.size + 1 ≤ w2.heap.size := (by have := hb.size; simp at this; omega); have HB2 := Lib.hid (((Below.refl W.heap.size W).alloc (Nat.le_refl _) _).trans (hb.mono (by simp))); clear hS hrow hnil hb hsl))
  go_loopw [3, 15] (fun v3 v15 wr => ∃ (j : Nat), j ≤ L.length ∧ v15 = .int .i64 j ∧ wr.ownsRow w2.heap.size 45 3 v3 j (flat3 (L.take j)) ∧ Go.RowKit.Below w2.heap.size w2 wr) (fun _ v15 _ => L.length - (intOf v15).toNat)
  case atStart => exact ⟨0, by omega, by go_num, World.ownsRow_nil _ _ _ _, Go.RowKit.Below.refl _ _⟩
  case round =>
    obtain ⟨j, hj, rfl, hown, hB⟩ := hrel
    obtain ⟨A', c', rfl⟩ := own_form3 hown
    have HBw := Lib.hid hB
    have HO := Lib.hid hown
    clear hB hown
    by_cases hlt : j < L.length
    · obtain ⟨g, rfl⟩ : ∃ g, A = some ⟨g, 0, none⟩ := by
        rcases HRow.out.2 with ⟨_, h2⟩ | ⟨g, cap, cur, h, _⟩
        · omega
        · exact ⟨g, by injection h⟩
      have hg : g < w2.heap.size := (HRow.out.lt g rfl).2
      obtain ⟨f, hf⟩ : ∃ f, L[j]? = some f := ⟨L[j], by simp [hlt]⟩
      have hcell : wr.cell? ⟨g, j, none⟩ = some (.string f.n) := by
        have h1 := HRow.out.cellAt j (by simpa using hlt)
        rw [List.getElem?_map, List.getElem?_map, hf] at h1
        exact (HBw.out.cell (p := ⟨g, j, none⟩) hg).trans (h1.trans (congrArg some (enc_nm f)))
      have hBr : Go.RowKit.Below W.heap.size W wr := HB2.out.trans (HBw.out.mono (by omega))
      have hst := HM.out.later hBr
      have c1r := hst.c1
      have hlk := fun W' hW => look_f hst f.n (hnm f (List.mem_of_getElem? hf)) W' hW
      rw [find_rise L hR j f hf] at hlk
      have hl0 := hlk wr (Go.RowKit.Below.refl _ _)
      have HFl := Lib.hid (flat3_take L j f hf)
      have HCN := Lib.hid (fun W => cell_three_new W f)
      have HS1 := Lib.hid (three_one f)
      obtain ⟨fn, ft, fv⟩ := f
      simp only [Option.getD_some, Fi.val] at hl0
      simp only at hcell
      have tj : decide ((j : Int) < (L.length : Int)) = true := by simp; omega
      clear hlk hst hBr hf
      have hcs : cells3 ⟨fn, ft, fv⟩ = [.string fn, .string ft, .int .i64 fv] := rfl
      go_wp2_with (at_builtin; go_loud (refine wpList_append_own _ rfl _ _ 28 rfl w2.heap.size 45 i0 (.agg #[.string ⟨#[]⟩, .string ⟨#[]⟩, .int .i64 0]) 3 40 Tryd.underlying28 hi0 hz0 hz1 hz2 rfl (by decide) _ _ _ rfl (HO.out.alloc _) ⟨wr.heap.size, 0, none⟩ 1 1 (cells3 ⟨fn, ft, fv⟩) rfl rfl ?a1 ?a2 ?a3 ?a4 ?a5 ?_))
      case a1 => exact HCN.out _
      case a2 => exact HS1.out
      case a3 => exact Nat.le_trans (by omega : j + 1 ≤ 1001) (by unfold maxLen; decide)
      case a4 => omega
      case a5 => have := HBw.out.size; simp; omega
      intro v' w3 hown' hgrow _
      obtain ⟨A2, c2, rfl⟩ := own_form3 hown'
      have hB3 : Go.RowKit.Below w2.heap.size w2 w3 := (HBw.out.alloc (HBw.out.size) _).grown hgrow (by have := HBw.out.size; simp; omega) (fun g hg => by have := (HO.out.lt g hg).1; omega)
      have HB3 := Lib.hid hB3
      have HO3 := Lib.hid (show w3.ownsRow w2.heap.size 45 3 (.slice A2 (j + 1) c2) (j + 1) (flat3 (L.take (j + 1))) by rw [HFl.out]; exact hown')
      clear hown' hgrow hB3 hl0 c1r hcell
      go_wp2_with fail
      go_roundw
      case rel => exact ⟨j + 1, by omega, by go_num, HO3.out, HB3.out⟩
      case measure => simp [intOf]; omega
    · obtain rfl : j = L.length := by omega
      have HFn : Hid (flat3 (L.take L.length) = flat3 L) := Lib.hid (by rw [List.take_length])
      have tj : decide ((L.length : Int) < (L.length : Int)) = false := by simp
      go_wp2_with fail
      go_ret
      exact ⟨A', c', rfl, by have h := HO.out; rw [HFn.out] at h; exact ownsRow_base3 h (by omega), HB2.out.trans (HBw.out.mono (by omega))⟩
end Go.Proofs.YtlgklkokadbpeaaDoor
