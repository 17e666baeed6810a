import Derived.Test.YtlgklkokadbpeaaDoorStT
namespace Go.Proofs.YtlgklkokadbpeaaDoor
open Go.RowKit Go.Maps Go.ChangeMaps Go.Sort
theorem rise_cons {f : Fi} {L : List Fi} : Rise (f :: L) ↔ (∀ g ∈ L, nm f < nm g) ∧ Rise L := by
  unfold Rise
  rw [List.map_cons, List.pairwise_cons]
  constructor
  · rintro ⟨h1, h2⟩; exact ⟨fun g hg => h1 _ (List.mem_map.2 ⟨g, hg, rfl⟩), h2⟩
  · rintro ⟨h1, h2⟩
    refine ⟨fun x hx => ?_, h2⟩
    obtain ⟨g, hg, rfl⟩ := List.mem_map.1 hx
    exact h1 g hg
theorem rise_without {L : List Fi} (h : Rise L) (s : ByteArray) : Rise (without L s) := by
  unfold Rise without at *
  exact List.Pairwise.sublist (List.Sublist.map _ List.filter_sublist) h
theorem mem_ins {f x : Fi} : ∀ {L : List Fi}, x ∈ insF f L → x = f ∨ x ∈ L
  | [], h => by simpa [insF] using h
  | g :: r, h => by
    unfold insF at h
    split at h
    · rcases List.mem_cons.1 h with rfl | h
      · exact .inl rfl
      · exact .inr h
    · rcases List.mem_cons.1 h with rfl | h
      · exact .inr (List.mem_cons_self ..)
      · rcases mem_ins h with rfl | h
        · exact .inl rfl
        · exact .inr (List.mem_cons_of_mem _ h)
theorem rise_ins {f : Fi} : ∀ {L : List Fi}, Rise L → (∀ g ∈ L, nm g ≠ nm f) → Rise (insF f L)
  | [], _, _ => by simp [insF, Rise]
  | g :: r, h, hne => by
    obtain ⟨h1, h2⟩ := rise_cons.1 h
    unfold insF
    split
    · rename_i hb
      rw [lk_before] at hb
      have hlt : nm f < nm g := of_decide_eq_true hb
      refine rise_cons.2 ⟨fun x hx => ?_, h⟩
      rcases List.mem_cons.1 hx with rfl | hx
      · exact hlt
      · exact List.lt_trans hlt (h1 x hx)
    · rename_i hb
      rw [lk_before] at hb
      have hnl : ¬ nm f < nm g := fun e => hb (decide_eq_true e)
      have hgf : nm g < nm f := lt_of_not hnl (fun e => hne g (List.mem_cons_self ..) e.symm)
      refine rise_cons.2 ⟨fun x hx => ?_, rise_ins h2 fun x hx => hne x (List.mem_cons_of_mem _ hx)⟩
      rcases mem_ins hx with rfl | hx
      · exact hgf
      · exact h1 x hx
theorem rise_put {L : List Fi} (h : Rise L) (f : Fi) : Rise (putL L f) := by
  refine rise_ins (rise_without h f.n) fun g hg e => ?_
  unfold without at hg
  have h2 := (List.mem_filter.1 hg).2
  have h3 : g.n.data.toList = f.n.data.toList := e
  simp [lk, Lit.sameKey, h3] at h2
theorem ins_len (f : Fi) : ∀ L : List Fi, (insF f L).length = L.length + 1
  | [] => rfl
  | g :: r => by
    unfold insF
    split
    · rfl
    · simp [ins_len f r]
theorem mem_put {L : List Fi} {f x : Fi} (h : x ∈ putL L f) : x = f ∨ x ∈ L := by
  rcases mem_ins h with h | h
  · exact .inl h
  · exact .inr (List.mem_filter.1 h).1
/-- A file's place in files that rise: what is put in its stead. -/
theorem put_there : ∀ {L : List Fi} {j : Nat} {g f : Fi}, Rise L → L[j]? = some g → nm g = nm f → putL L f = L.take j ++ f :: L.drop (j + 1)
  | [], j, g, f, _, h, _ => by simp at h
  | a :: r, 0, g, f, hR, h, he => by
    obtain rfl : a = g := by simpa using h
    obtain ⟨h1, h2⟩ := rise_cons.1 hR
    unfold putL without
    have ha : (lk a.n).sameKey (lk f.n) = true := by unfold lk Lit.sameKey; simpa [nm] using he
    rw [List.filter_cons, ha]
    have hall : r.filter (fun x => !(lk x.n).sameKey (lk f.n)) = r := List.filter_eq_self.2 fun x hx => by
      have hlt := h1 x hx
      have hne : nm x ≠ nm f := fun e => by rw [e, ← he] at hlt; exact List.lt_irrefl _ hlt
      simp [lk, Lit.sameKey]
      exact fun e => hne (by unfold nm; rw [e])
    simp only [Bool.not_true, Bool.false_eq_true, if_false, hall, List.take_zero, List.nil_append, List.drop_succ_cons, List.drop_zero]
    exact ins_front fun x hx => by rw [← he]; exact h1 x hx
  | a :: r, j + 1, g, f, hR, h, he => by
    obtain ⟨h1, h2⟩ := rise_cons.1 hR
    have h' : r[j]? = some g := by simpa using h
    have hag : nm a < nm f := by rw [← he]; exact h1 g (List.mem_of_getElem? h')
    have ih := put_there h2 h' he
    unfold putL without at ih ⊢
    have hk : (lk a.n).sameKey (lk f.n) = false := by
      unfold lk Lit.sameKey
      simp only [beq_eq_false_iff_ne, ne_eq]
      intro e
      have e' : nm a = nm f := e
      rw [e'] at hag
      exact List.lt_irrefl _ hag
    rw [List.filter_cons, hk]
    simp only [Bool.not_false, if_true]
    rw [insF, if_neg (by rw [lk_before]; simp only [decide_eq_true_eq]; exact fun h => List.lt_irrefl _ (List.lt_trans h hag)), ih]
    rfl
theorem without_none {L : List Fi} {s : ByteArray} (h : find L s = none) : without L s = L := by
  unfold find at h
  rw [List.find?_eq_none] at h
  exact List.filter_eq_self.2 fun x hx => by
    have := h x hx
    cases hk : (lk x.n).sameKey (lk s) with
    | false => rfl
    | true => exact absurd hk this
/-- A file's place in files that rise: what is left without it. -/
theorem without_there : ∀ {L : List Fi} {j : Nat} {g : Fi} {s : ByteArray}, Rise L → L[j]? = some g → nm g = s.data.toList → without L s = L.take j ++ L.drop (j + 1)
  | [], j, g, s, _, h, _ => by simp at h
  | a :: r, 0, g, s, hR, h, he => by
    obtain rfl : a = g := by simpa using h
    obtain ⟨h1, h2⟩ := rise_cons.1 hR
    unfold without
    have ha : (lk a.n).sameKey (lk s) = true := by unfold lk Lit.sameKey; simpa [nm] using he
    rw [List.filter_cons, ha]
    have hall : r.filter (fun x => !(lk x.n).sameKey (lk s)) = r := List.filter_eq_self.2 fun x hx => by
      have hlt := h1 x hx
      have hne : nm x ≠ s.data.toList := fun e => by rw [e, ← he] at hlt; exact List.lt_irrefl _ hlt
      simp [lk, Lit.sameKey]
      exact fun e => hne (by unfold nm; rw [e])
    simpa using hall
  | a :: r, j + 1, g, s, hR, h, he => by
    obtain ⟨h1, h2⟩ := rise_cons.1 hR
    have h' : r[j]? = some g := by simpa using h
    have hag : nm a < s.data.toList := by rw [← he]; exact h1 g (List.mem_of_getElem? h')
    have ih := without_there h2 h' he
    unfold without at ih ⊢
    have hk : (lk a.n).sameKey (lk s) = false := by
      unfold lk Lit.sameKey
      simp only [beq_eq_false_iff_ne, ne_eq]
      intro e
      have e' : nm a = s.data.toList := e
      rw [e'] at hag
      exact List.lt_irrefl _ hag
    rw [List.filter_cons, hk]
    simp only [Bool.not_false, if_true, ih]
    rfl
end Go.Proofs.YtlgklkokadbpeaaDoor
