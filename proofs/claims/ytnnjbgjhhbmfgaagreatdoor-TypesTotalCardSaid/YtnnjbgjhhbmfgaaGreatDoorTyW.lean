import Derived.Test.YtnnjbgjhhbmfgaaGreatDoorTyV
namespace Go.Proofs.YtnnjbgjhhbmfgaaGreatDoor
open Go.Shelf Go.RowKit Go.Lib Go.Sort
theorem isAggTy : ∀ w, (isAgg (sortTy_ren.t 24)).run Tryz.prog w = .ok true w := fun _ => by kernel_rfl
theorem sizeOfTy : ∀ w, (Go.sizeOf (sortTy_ren.t 24)).run Tryz.prog w = .ok 6 w := fun _ => by kernel_rfl
theorem enterTy : ∀ args w, (callFunc 6 args).run Tryz.prog w = .ok (.enter 6 args) w := enters_of Tryz.func6 (by kernel_rfl) rfl
theorem sort_any : SortP := by
  intro K w0 w g c l h hb hg hbd
  classical
  have hex : ∀ i : Fin l.length, ∃ x : TyC K w0, x.1.1 = l[i] ∧ ∀ (j : Nat) (u : Value), (encC x)[j]? = some u → w.cell? ⟨g, i.1 * 6 + j, none⟩ = some u := fun i => by
    obtain ⟨cs, h1, h2⟩ := h.reps i.1 l[i] (List.getElem?_eq_getElem i.2)
    exact ⟨⟨(l[i], cs), h1⟩, rfl, h2⟩
  obtain ⟨f, hf⟩ : ∃ f : Fin l.length → TyC K w0, ∀ i, (f i).1.1 = l[i] ∧ ∀ (j : Nat) (u : Value), (encC (f i))[j]? = some u → w.cell? ⟨g, i.1 * 6 + j, none⟩ = some u := ⟨fun i => (hex i).choose, fun i => (hex i).choose_spec⟩
  obtain ⟨d, hd⟩ : ∃ d : Array (TyC K w0), d = Array.ofFn f := ⟨_, rfl⟩
  have hds : d.size = l.length := by rw [hd]; simp
  have hdi : ∀ i (hi : i < l.length), d[i]! = f ⟨i, hi⟩ := fun i hi => by rw [getElem!_pos d i (by omega)]; simp [hd]
  have hdl : d.toList.map (fun x => x.1.1) = l := by
    refine List.ext_getElem (by simpa using hds) fun i h1 h2 => ?_
    rw [List.getElem_map, Array.getElem_toList]
    have := hdi i h2
    rw [getElem!_pos d i (by omega)] at this
    rw [this, (hf ⟨i, h2⟩).1]
    rfl
  have hH : HoldsK encC 6 w g 0 d := by
    intro t ht
    have ht' : t < d.size * 6 := by simpa using ht
    have hi : t / 6 < l.length := by omega
    have hj : t % 6 < 6 := by omega
    have hlen := encC_len (f ⟨t / 6, hi⟩)
    refine ⟨?_, (h.there (j := 0 + t) (by have := h.le; omega)).2⟩
    rw [get_flatK _ _ _ _ ht', hdi _ hi]
    have h3 := (hf ⟨t / 6, hi⟩).2 (t % 6) _ (List.getElem?_eq_getElem (by omega))
    rw [show (⟨t / 6, hi⟩ : Fin l.length).1 * 6 + t % 6 = 0 + t from by show t / 6 * 6 + t % 6 = _; omega] at h3
    rw [h3, getElem!_pos _ _ (by omega)]
    rfl
  have main := AnyQ.slices_SortFunc sortTy 6 isAggTy sizeOfTy encC encC_len encC_one cfC (swoC K w0) 6 #[] g 0 c d w enterTy (cmpC hb hg) hH h.lt (by omega)
  rw [hds] at main
  refine main.mono ?_
  rintro e w' ⟨rfl, d', n, os, hp, hs, rfl⟩
  have hsz : d'.size = l.length := hp.1.trans hds
  have hperm : d'.toList.Perm d.toList := by
    have h3 := hp.2.2
    have e1 : (d'.extract 0 l.length).toList = d'.toList := by rw [← hsz]; simp
    have e2 : (d.extract 0 l.length).toList = d.toList := by rw [← hds]; simp
    rwa [e1, e2] at h3
  refine ⟨rfl, sort_below hb hg, d'.toList.map (fun x => x.1.1), ?_, ?_, by simpa using hsz, ?_⟩
  · refine List.pairwise_map.2 (List.pairwise_iff_getElem.2 fun i j hi hj hij => ?_)
    have hi' : i < d'.size := by simpa using hi
    have hj' : j < d'.size := by simpa using hj
    have h4 := ltC_f.1 (hs i j (Nat.zero_le _) hij (by omega))
    rw [getElem!_pos d' i hi', getElem!_pos d' j hj', ordT_flip] at h4
    simp only [Array.getElem_toList]
    omega
  · intro x
    rw [← hdl]
    exact (hperm.map _).mem_iff
  · have hH' := holdsK_sortWorldK (encC (K := K) (w0 := w0)) 6 w g 0 n d d' os h.lt hH (hsz.trans hds.symm)
    obtain ⟨cur, hc1, hc2⟩ := h.blk
    obtain ⟨cur', hc3, hc4⟩ := blk_sort (enc := encC (K := K) (w0 := w0)) (m := n) (dk := d') (os := os) hc1
    refine ⟨by rw [List.length_map, Array.length_toList, hsz]; exact h.le, h.mx, ⟨cur', hc3, hc4.trans hc2⟩, fun i t hi => ?_⟩
    obtain ⟨hlt, rfl⟩ := List.getElem?_eq_some_iff.1 hi
    have hlt' : i < d'.size := by simpa using hlt
    refine ⟨encC d'[i], by rw [List.getElem_map, Array.getElem_toList]; exact d'[i].2, fun j u hj => ?_⟩
    obtain ⟨hj1, hj2⟩ := List.getElem?_eq_some_iff.1 hj
    have h6 := encC_len d'[i]
    have h7 := (hH'.cell (i := i) (c := j) hlt' (by omega)).1
    rw [Nat.zero_add, getElem!_pos d' i hlt', getElem!_pos _ j hj1, hj2] at h7
    exact h7
end Go.Proofs.YtnnjbgjhhbmfgaaGreatDoor
