import Derived.Test.YtjcaeoacgoklmaaDoorGrV
namespace Go.Proofs.YtjcaeoacgoklmaaDoor
open Go.RowKit
def avN : Nat → Value := fun _ => .slice none 0 0
def addL (L : Lay) (n nb : Nat) (A : Option Addr) (c rb ro : Nat) : Lay := { L with nb := fun i => if i = n then nb else L.nb i, rA := fun i => if i = n then A else L.rA i, rC := fun i => if i = n then c else L.rC i, rb := fun i => if i = n then rb else L.rb i, ro := fun i => if i = n then ro else L.ro i }
def newE (l : List Rule) : Env := ⟨l, fun _ => none⟩
theorem ruleN_old {l : List Rule} {r : Rule} {i : Nat} (h : i < l.length) : ruleN (newE (l ++ [r])) i = ruleN (newE l) i := by
  unfold ruleN newE
  rw [List.getD_eq_getElem?_getD, List.getD_eq_getElem?_getD, List.getElem?_append_left h]
theorem ruleN_new (l : List Rule) (r : Rule) : ruleN (newE (l ++ [r])) l.length = r := by
  unfold ruleN newE
  rw [List.getD_eq_getElem?_getD, List.getElem?_append_right (Nat.le_refl _)]
  simp
theorem findR_add (l : List Rule) (r : Rule) (a : ByteArray) : findR (newE (l ++ [r])) a = (findR (newE l) a).or (if r.name = a then some l.length else none) := by
  unfold findR newE
  rw [List.findIdx?_append]
  congr 1
  by_cases h : r.name = a
  · rw [if_pos h]; simp [h]
  · rw [if_neg h]; simp [h]
theorem foot_new {L : Lay} {n k : Nat} : Foot L n avN k ↔ k = L.G ∨ ∃ i, i < n ∧ k = L.nb i := by
  unfold Foot avN
  simp [Value.ownBlock]
theorem addF (L : Lay) {l : List Rule} {r : Rule} (hr : findR (newE l) r.name = none) (nb : Nat) (A : Option Addr) (c rb ro : Nat) : (updF (fun a => (findR (newE l) a).map fun i => some (L.nb i)) r.name (some nb)) = fun a => (findR (newE (l ++ [r])) a).map fun i => some ((addL L l.length nb A c rb ro).nb i) := by
  have nbo : ∀ i, i < l.length → (addL L l.length nb A c rb ro).nb i = L.nb i := fun i hi => if_neg (by omega)
  have nbn : (addL L l.length nb A c rb ro).nb l.length = nb := if_pos rfl
  funext a
  unfold updF
  rw [findR_add]
  by_cases e : r.name = a
  · subst e
    rw [if_pos rfl, if_pos rfl, hr]
    simp only [Option.none_or, Option.map_some]
    rw [nbn]
  · rw [if_neg e, if_neg e]
    show (findR (newE l) a).map _ = _
    cases hf : findR (newE l) a with
    | none => rfl
    | some i =>
      simp only [Option.some_or, Option.map_some]
      rw [nbo i (findR_lt hf)]
theorem Mem.add {L : Lay} {l : List Rule} {W W' : World} (h : Mem L (newE l) st0 avN W) (hI : L.I = none) {r : Rule} (hr : findR (newE l) r.name = none) {nb rb ro c : Nat} {A : Option Addr} (hn : W.heap.size ≤ nb) (hnl : nb < W'.heap.size)
    (hnode : W'.heap[nb]? = some (.cells (ndCells r A c nd0 (.slice none 0 0)) 55 (0, 0))) (hmap : MapIs nodeMK W' L.M 1000000 (updF (fun a => (findR (newE l) a).map fun i => some (L.nb i)) r.name (some nb)))
    (hk : ∀ k, k < W.heap.size → k ≠ L.M → W'.heap[k]? = W.heap[k]?) (hrb : 0 < r.refs.length → W.heap.size ≤ rb ∧ rb < W'.heap.size ∧ rb ≠ nb) (href : ∀ j a, r.refs[j]? = some a → A = some ⟨rb, ro, none⟩ ∧ W'.cell? ⟨rb, ro + j, none⟩ = some (.string a))
    (hM : ∀ i, i < l.length → 0 < (ruleN (newE l) i).refs.length → L.rb i ≠ L.M) (hT : ∀ k, Table k → k ≠ L.M) : Mem (addL L l.length nb A c rb ro) (newE (l ++ [r])) st0 avN W' := by
  have hlen : (newE (l ++ [r])).rules.length = l.length + 1 := by simp [newE]
  have hlo : (newE l).rules.length = l.length := rfl
  have hft : ∀ k, Foot L l.length avN k → W'.heap[k]? = W.heap[k]? := fun k h1 => hk k (h.lt h1) (fun e => (h.stat L.M (.inl rfl)).1 (e ▸ h1))
  have nbo : ∀ i, i < l.length → (addL L l.length nb A c rb ro).nb i = L.nb i := fun i hi => if_neg (by omega)
  have nbn : (addL L l.length nb A c rb ro).nb l.length = nb := if_pos rfl
  have hnb : ∀ i, i < l.length → L.nb i < W.heap.size := fun i hi => blk_lt (h.nd i hi)
  refine ⟨(hft _ (.inl rfl)).trans h.g, fun i hi => ?_, fun i hi => ?_, ?_, ?_, fun i hi j a ha => ?_, fun i j hi hj e => ?_, fun i hi => ?_, fun i k hi ho => by simp [avN, Value.ownBlock] at ho, fun k hk1 => ?_, ?_⟩
  · rw [hlen] at hi
    by_cases e : i = l.length
    · subst e
      rw [nbn, ruleN_new]
      simp only [addL, if_true]
      exact hnode
    · have hi : i < l.length := by omega
      rw [nbo i hi, ruleN_old hi]
      simp only [addL, if_neg e]
      rw [hft _ (.inr ⟨i, hi, .inl rfl⟩)]
      exact h.nd i hi
  · exact ⟨rfl, .inl ⟨rfl, rfl⟩⟩
  · rw [← addF L hr nb A c rb ro]
    exact hmap
  · have : (addL L l.length nb A c rb ro).I = none := hI
    rw [this]
    exact fun _ => rfl
  · rw [hlen] at hi
    by_cases e : i = l.length
    · subst e
      rw [ruleN_new] at ha
      simp only [addL, if_true]
      exact href j a ha
    · have hi : i < l.length := by omega
      rw [ruleN_old hi] at ha
      simp only [addL, if_neg e]
      obtain ⟨h1, h2⟩ := h.refs i hi j a ha
      have hl : 0 < (ruleN (newE l) i).refs.length := Nat.lt_of_le_of_lt (Nat.zero_le j) (List.getElem?_eq_some_iff.1 ha).1
      refine ⟨h1, ?_⟩
      rw [World.cell?_of_block (w := W) (hk (L.rb i) (h.stat _ (.inr (.inr (.inl ⟨i, hi, hl, rfl⟩)))).2 (hM i hi hl))]
      exact h2
  · rw [hlen] at hi hj
    by_cases ei : i = l.length
    · by_cases ej : j = l.length
      · omega
      · rw [ei, nbn, nbo j (by omega)] at e
        have := hnb j (by omega)
        omega
    · by_cases ej : j = l.length
      · rw [ej, nbn, nbo i (by omega)] at e
        have := hnb i (by omega)
        omega
      · rw [nbo i (by omega), nbo j (by omega)] at e
        exact h.inj i j (by omega) (by omega) e
  · rw [hlen] at hi
    by_cases ei : i = l.length
    · rw [ei, nbn]
      have := blk_lt h.g
      show nb ≠ L.G
      omega
    · rw [nbo i (by omega)]
      exact h.ng i (by omega)
  · have old : ∀ k, Stat L (newE l) k → ¬ Foot (addL L l.length nb A c rb ro) (newE (l ++ [r])).rules.length avN k ∧ k < W'.heap.size := fun k h1 => by
      obtain ⟨h2, h3⟩ := h.stat k h1
      refine ⟨fun hf => h2 ?_, by omega⟩
      rw [foot_new] at hf ⊢
      rcases hf with hf | ⟨i, hi, hf⟩
      · exact .inl hf
      · rw [hlen] at hi
        by_cases e : i = l.length
        · rw [e, nbn] at hf; omega
        · rw [nbo i (by omega)] at hf; exact .inr ⟨i, by rw [hlo]; omega, hf⟩
    rcases hk1 with h1 | h1 | ⟨i, hi, hl, h1⟩ | h1
    · exact old k (.inl h1)
    · exact old k (.inr (.inl h1))
    · rw [hlen] at hi
      by_cases e : i = l.length
      · subst e
        rw [ruleN_new] at hl
        simp only [addL, if_true] at h1
        subst h1
        obtain ⟨x1, x2, x3⟩ := hrb hl
        refine ⟨fun hf => ?_, x2⟩
        rw [foot_new] at hf
        rcases hf with hf | ⟨i, hi, hf⟩
        · have := blk_lt h.g; have hf : k = L.G := hf; omega
        · rw [hlen] at hi
          by_cases e : i = l.length
          · rw [e, nbn] at hf; exact x3 hf
          · rw [nbo i (by omega)] at hf; have := hnb i (by omega); omega
      · have hi : i < l.length := by omega
        rw [ruleN_old hi] at hl
        simp only [addL, if_neg e] at h1
        exact old k (.inr (.inr (.inl ⟨i, hi, hl, h1⟩)))
    · exact old k (.inr (.inr (.inr h1)))
  · exact tab_keep h.tab fun g hg => hk g (h.stat g (.inr (.inr (.inr hg)))).2 (hT g hg)
theorem Mem.start {W' : World} (hT : TabG W') {G M : Nat} (hg : W'.heap[G]? = some (.cells #[.map (some M), .map none, .int .i64 0, .int .i64 0] 48 (0, 0))) (hm : MapIs nodeMK W' M 0 (fun _ => none)) (hGM : M ≠ G) (hTG : ∀ k, Table k → k ≠ G ∧ k < W'.heap.size) :
    Mem ⟨G, M, none, fun _ => 0, fun _ => none, fun _ => 0, fun _ => 0, fun _ => 0⟩ (newE []) st0 avN W' := by
  refine ⟨hg, fun i hi => absurd hi (by simp [newE]), fun i hi => absurd hi (by simp [newE]), hm.more (by omega), fun _ => rfl, fun i hi => absurd hi (by simp [newE]), fun i j hi => absurd hi (by simp [newE]), fun i hi => absurd hi (by simp [newE]), fun i k hi => absurd hi (by simp [newE]), fun k hk => ?_, hT⟩
  have hnf : ∀ k, k ≠ G → ¬ Foot ⟨G, M, none, fun _ => 0, fun _ => none, fun _ => 0, fun _ => 0, fun _ => 0⟩ (newE []).rules.length avN k := fun k hk hf => by
    rw [foot_new] at hf
    rcases hf with hf | ⟨i, hi, _⟩
    · exact hk hf
    · exact absurd hi (by simp [newE])
  rcases hk with h1 | h1 | ⟨i, hi, _⟩ | h1
  · subst h1; exact ⟨hnf _ hGM, hm.lt⟩
  · cases h1
  · exact absurd hi (by simp [newE])
  · exact ⟨hnf k (hTG k h1).1, (hTG k h1).2⟩
end Go.Proofs.YtjcaeoacgoklmaaDoor
