import Derived.Test.YtlgklkokadbpeaaDoorStBp
namespace Go.Proofs.YtlgklkokadbpeaaDoor
open Go.RowKit Go.Maps Go.ChangeMaps Go.Sort
/-- What is true of the files' versions, names and texts. -/
structure Vs (L : List Fi) (n : Int) : Prop where
  pos : ∀ f ∈ L, 1 ≤ f.v ∧ f.v ≤ n
  ne : L.Pairwise (fun f g => f.v ≠ g.v)
  ok : ∀ f ∈ L, nameR f.n = true ∧ (checkR f.t).2 = 0
theorem Vs.nil : Vs [] 0 := ⟨(fun _ h => by cases h), List.Pairwise.nil, (fun _ h => by cases h)⟩
theorem pw_ins {f : Fi} : ∀ {L : List Fi}, L.Pairwise (fun f g => f.v ≠ g.v) → (∀ g ∈ L, f.v ≠ g.v) → (insF f L).Pairwise (fun f g => f.v ≠ g.v)
  | [], _, _ => by simp [insF]
  | g :: r, h, hne => by
    obtain ⟨h1, h2⟩ := List.pairwise_cons.1 h
    unfold insF
    split
    · exact List.pairwise_cons.2 ⟨hne, h⟩
    · refine List.pairwise_cons.2 ⟨fun x hx => ?_, pw_ins h2 fun x hx => hne x (List.mem_cons_of_mem _ hx)⟩
      rcases mem_ins hx with rfl | hx
      · exact fun e => hne g (List.mem_cons_self ..) e.symm
      · exact h1 x hx
theorem mem_without {L : List Fi} {s : ByteArray} {f : Fi} (h : f ∈ without L s) : f ∈ L := by
  unfold Go.Proofs.YtlgklkokadbpeaaDoor.without at h
  exact (List.mem_filter.1 h).1
theorem pw_without {L : List Fi} (s : ByteArray) (h : L.Pairwise (fun f g => f.v ≠ g.v)) : (without L s).Pairwise (fun f g => f.v ≠ g.v) := by
  unfold Go.Proofs.YtlgklkokadbpeaaDoor.without
  exact List.Pairwise.sublist List.filter_sublist h
theorem Vs.grow {L : List Fi} {n m : Int} (h : Vs L n) (hm : n ≤ m) : Vs L m := ⟨fun f hf => ⟨(h.pos f hf).1, Int.le_trans (h.pos f hf).2 hm⟩, h.ne, h.ok⟩
theorem Vs.without {L : List Fi} {n : Int} (h : Vs L n) (s : ByteArray) : Vs (without L s) n := ⟨fun f hf => h.pos f (mem_without hf), pw_without s h.ne, fun f hf => h.ok f (mem_without hf)⟩
theorem Vs.put {L : List Fi} {n : Int} (h : Vs L n) (hn : 0 ≤ n) (s t : ByteArray) : Vs (afterL L n s t) (afterN L n s t) := by
  unfold afterL afterN
  split
  · rename_i hw
    obtain ⟨h1, h2⟩ := writes_ok hw
    refine ⟨fun f hf => ?_, ?_, fun f hf => ?_⟩
    · rcases mem_put hf with rfl | hf
      · exact ⟨by simp only; omega, Int.le_refl _⟩
      · have := h.pos f hf; omega
    · unfold putL
      refine pw_ins (pw_without _ h.ne) fun g hg => ?_
      have := (h.pos g (mem_without hg)).2
      simp only
      omega
    · rcases mem_put hf with rfl | hf
      · exact ⟨h1, h2⟩
      · exact h.ok f hf
  · exact h
theorem Vs.edit {L : List Fi} {n : Int} (h : Vs L n) (hn : 0 ≤ n) (s : ByteArray) (xs : List EditD) : Vs (editL L n s xs) (editN L n s xs) := by
  unfold editL editN
  split
  · exact h
  · split
    · exact h.put hn s _
    · exact h
theorem Vs.drop {L : List Fi} {n : Int} (h : Vs L n) (s : ByteArray) : Vs (dropL L s) (dropN L n s) := by
  unfold dropL dropN
  split
  · exact (h.without s).grow (by omega)
  · exact h
/-- What is refused writes nothing. -/
theorem put_bad {L : List Fi} {n : Int} {s t : ByteArray} (h : putE L s t ≠ 0) : afterL L n s t = L ∧ afterN L n s t = n := by
  have hw : writes L s t = false := by
    refine Bool.eq_false_iff.2 fun hw => h ?_
    obtain ⟨h1, h2⟩ := writes_ok hw
    unfold putE
    rw [if_pos h1, if_pos h2, if_neg]
    rintro ⟨h3, h4⟩
    unfold writes at hw
    cases hf : find L s with
    | none => rw [hf] at hw; simp at hw; omega
    | some g => rw [hf] at h3; cases h3
  unfold afterL afterN
  rw [hw]
  exact ⟨rfl, rfl⟩
theorem edit_bad_n {L : List Fi} {n : Int} {s : ByteArray} {xs : List EditD} (h : editE L s xs ≠ 0) : editN L n s xs = n := by
  unfold editE at h
  unfold editN
  split
  · rfl
  · rename_i f hf
    rw [hf] at h
    simp only at h
    split
    · rename_i he
      rw [if_pos he] at h
      exact (put_bad h).2
    · rfl
theorem drop_bad_n {L : List Fi} {n : Int} {s : ByteArray} (h : (if (find L s).isSome then (0 : Int) else 3) ≠ 0) : dropN L n s = n := by
  unfold dropN
  split
  · rename_i hs
    rw [if_pos hs] at h
    exact absurd rfl h
  · rfl
/-- What is put as it is. -/
theorem put_as_is {L : List Fi} {n : Int} {s : ByteArray} {f : Fi} (hv : Vs L n) (hf : find L s = some f) : putE L s f.t = 0 ∧ afterL L n s f.t = L ∧ afterN L n s f.t = n := by
  have hm := hv.ok f (find_mem hf)
  rw [find_nm hf] at hm
  have hw : writes L s f.t = false := by
    unfold writes
    rw [hf]
    simp only [(MapKept.bytes_beq f.t f.t).2 rfl, Bool.not_true, Bool.and_false]
  refine ⟨?_, ?_, ?_⟩
  · unfold putE; rw [if_pos hm.1, if_pos hm.2, hf]; simp
  · unfold afterL; rw [hw]; simp
  · unfold afterN; rw [hw]; simp
theorem ba_ext {a b : ByteArray} (h : a.data.toList = b.data.toList) : a = b := toList_inj h
theorem apply_self (t : ByteArray) (ht : t.size ≤ 262144) : applyE t [⟨0, t.size, t⟩] = (t, 0) := by
  have hc : cut t ⟨0, t.size, t⟩ = t := by
    unfold cut
    apply toList_inj
    simp
  unfold applyE
  rw [if_neg (by unfold bad; simp only; omega), hc, if_neg (by omega)]
  rfl
theorem edit_as_is {L : List Fi} {n : Int} {s : ByteArray} {f : Fi} (hv : Vs L n) (hf : find L s = some f) : editE L s [⟨0, f.t.size, f.t⟩] = 0 ∧ editL L n s [⟨0, f.t.size, f.t⟩] = L ∧ editN L n s [⟨0, f.t.size, f.t⟩] = n := by
  have ht := check_size (hv.ok f (find_mem hf)).2
  obtain ⟨h1, h2, h3⟩ := put_as_is hv hf
  have ha := apply_self f.t ht
  refine ⟨?_, ?_, ?_⟩
  · unfold editE; rw [hf]; simp only [ha, if_true]; exact h1
  · unfold editL; rw [hf]; simp only [ha, if_true]; exact h2
  · unfold editN; rw [hf]; simp only [ha, if_true]; exact h3
def nlB : ByteArray := ⟨#[10]⟩
theorem data_nl (t : ByteArray) : (nlB ++ t).data = #[10] ++ t.data := ByteArray.data_append
theorem dsize_nl (t : ByteArray) : (#[(10 : UInt8)] ++ t.data).size = t.data.size + 1 := by simp; omega
theorem B_nl0 (t : ByteArray) : B (nlB ++ t) 0 = 10 := by
  unfold B
  rw [data_nl, getElem!_pos _ 0 (by rw [dsize_nl]; omega)]
  simp
theorem B_nl (t : ByteArray) (k : Nat) : B (nlB ++ t) (k + 1) = B t k := by
  unfold B
  rw [data_nl]
  by_cases h : k < t.data.size
  · rw [getElem!_pos _ (k + 1) (by rw [dsize_nl]; omega), getElem!_pos t.data k h]
    simp
  · rw [getElem!_neg _ (k + 1) (by rw [dsize_nl]; omega), getElem!_neg t.data k h]
theorem size_nl (t : ByteArray) : (nlB ++ t).size = t.size + 1 := by
  rw [ByteArray.size_append]
  show 1 + t.size = t.size + 1
  omega
theorem seq_nl (t : ByteArray) (i : Nat) : seqN (nlB ++ t) (i + 1) = seqN t i := by
  unfold seqN
  rw [size_nl, show i + 1 + 1 = (i + 1) + 1 from rfl, show i + 1 + 2 = (i + 2) + 1 from rfl, show i + 1 + 3 = (i + 3) + 1 from rfl, B_nl, B_nl, B_nl, B_nl, show t.size + 1 - (i + 1) = t.size - i by omega]
theorem seq_nl0 (t : ByteArray) : seqN (nlB ++ t) 0 = 1 := by
  unfold seqN
  rw [B_nl0]
  unfold seqD
  simp
theorem chk_nl (t : ByteArray) : ∀ k i, (chkN (nlB ++ t) k (i + 1)).2 = (chkN t k i).2 := by
  intro k
  induction k with
  | zero => intro i; rfl
  | succ k ih =>
    intro i
    simp only [chkN]
    rw [size_nl, seq_nl]
    by_cases h : i < t.size
    · rw [if_pos h, if_pos (by omega)]
      by_cases h0 : seqN t i = 0
      · rw [if_pos h0, if_pos h0]
      · rw [if_neg h0, if_neg h0, show i + 1 + seqN t i = (i + seqN t i) + 1 by omega]
        exact ih _
    · rw [if_neg h, if_neg (by omega)]
theorem check_nl {t : ByteArray} (h : (checkR t).2 = 0) (hs : t.size < 262144) : (checkR (nlB ++ t)).2 = 0 := by
  rw [check_short (by omega)] at h
  rw [check_short (by rw [size_nl]; omega), size_nl]
  simp only [chkN]
  rw [size_nl, if_pos (by omega), seq_nl0, if_neg (by omega), Nat.zero_add]
  show (chkN (nlB ++ t) t.size (0 + 1)).2 = 0
  rw [chk_nl]
  exact h
theorem apply_nl (t : ByteArray) (ht : t.size < 262144) : applyE t [⟨0, 0, nlB⟩] = (nlB ++ t, 0) := by
  have hc : cut t ⟨0, 0, nlB⟩ = nlB ++ t := by
    unfold cut
    apply toList_inj
    simp [ByteArray.data_append]
  unfold applyE
  rw [if_neg (by unfold bad; simp only; omega), hc, if_neg (by rw [size_nl]; omega)]
  rfl
theorem nl_ne (t : ByteArray) : nlB ++ t ≠ t := by
  intro h
  have := congrArg ByteArray.size h
  rw [size_nl] at this
  omega
/-- The file of the name, once it is put. -/
theorem find_ins {f : Fi} : ∀ {L : List Fi}, find L f.n = none → find (insF f L) f.n = some f
  | [], _ => by simp [insF, find, lk, Lit.sameKey]
  | g :: r, h => by
    unfold insF
    split
    · simp [find, lk, Lit.sameKey]
    · unfold find at h ⊢
      rw [List.find?_cons] at h
      split at h
      · cases h
      · rename_i hg
        simp only [List.find?_cons, hg]
        exact find_ins (L := r) h
theorem find_without (L : List Fi) (s : ByteArray) : find (without L s) s = none := by
  unfold find Go.Proofs.YtlgklkokadbpeaaDoor.without
  rw [List.find?_eq_none]
  intro f hf
  have := (List.mem_filter.1 hf).2
  simpa using this
theorem find_put (L : List Fi) (f : Fi) : find (putL L f) f.n = some f := find_ins (find_without L f.n)
theorem edit_nl {L : List Fi} {n : Int} {s : ByteArray} {f : Fi} (hv : Vs L n) (hf : find L s = some f) (hs : f.t.size < 262144) : editE L s [⟨0, 0, nlB⟩] = 0 ∧ find (editL L n s [⟨0, 0, nlB⟩]) s = some ⟨s, nlB ++ f.t, n + 1⟩ ∧ editN L n s [⟨0, 0, nlB⟩] = n + 1 := by
  have hm := hv.ok f (find_mem hf)
  rw [find_nm hf] at hm
  have ha := apply_nl f.t hs
  have hk := check_nl hm.2 hs
  have hw : writes L s (nlB ++ f.t) = true := by
    unfold writes
    rw [hf, hm.1, decide_eq_true hk]
    have hb : (f.t == nlB ++ f.t) = false := Bool.eq_false_iff.2 (fun e => nl_ne f.t ((MapKept.bytes_beq _ _).1 e).symm)
    simp [hb]
  refine ⟨?_, ?_, ?_⟩
  · unfold editE; rw [hf]; simp only [ha, if_true]; unfold putE; rw [if_pos hm.1, if_pos hk, hf]; simp
  · unfold editL; rw [hf]; simp only [ha, if_true]; unfold afterL; rw [if_pos hw]; exact find_put L ⟨s, nlB ++ f.t, n + 1⟩
  · unfold editN; rw [hf]; simp only [ha, if_true]; unfold afterN; rw [if_pos hw]
end Go.Proofs.YtlgklkokadbpeaaDoor
