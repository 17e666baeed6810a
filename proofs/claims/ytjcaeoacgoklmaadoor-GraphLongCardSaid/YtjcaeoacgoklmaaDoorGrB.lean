import Derived.Test.YtjcaeoacgoklmaaDoorGrA
namespace Go.Proofs.YtjcaeoacgoklmaaDoor
variable {itoaB : Nat → ByteArray}
theorem Path.ext2 {V V' : ByteArray → Out} {r : Rule} {os : List Out} (h : Path itoaB V r os) (hv : ∀ s, V s ∈ os → V' s = V s) : Path itoaB V' r os := by
  induction h with
  | nil => exact .nil
  | @snoc os j h hn ih =>
    rw [← hv _ (List.mem_append_right _ (List.mem_singleton.2 rfl))]
    exact .snoc (ih fun s hs => hv s (List.mem_append_left _ hs)) hn
theorem Path.fine {V : ByteArray → Out} {r : Rule} {os : List Out} {o : Out} (h : Path itoaB V r os) (hd : nxt itoaB r os = .done o) (he : o.e ≠ 8) : ∀ x ∈ os, x.e ≠ 8 := by
  intro x hx
  rcases List.eq_nil_or_concat os with rfl | ⟨os', y, rfl⟩
  · cases hx
  rw [List.concat_eq_append] at *
  rcases List.mem_append.1 hx with hx | hx
  · have := h.good (x := x) (by rw [List.dropLast_concat]; exact hx)
    omega
  · simp only [List.mem_cons, List.not_mem_nil, or_false] at hx
    subst hx
    intro h8
    rw [nxt_snoc, if_pos (by omega)] at hd
    injection hd with hd
    rw [hd] at h8
    exact he h8
theorem come_ex (V : ByteArray → Out) (r : Rule) : ∃ o os, Path itoaB V r os ∧ nxt itoaB r os = .done o := by
  obtain ⟨os, o, h1, h2, _⟩ := Path.whole (itoaB := itoaB) V r (steps r) [] .nil (by simp)
  exact ⟨o, os, h1, h2⟩
/-- What a rule comes to, being told by V. -/
noncomputable def comeV (itoaB : Nat → ByteArray) (V : ByteArray → Out) (r : Rule) : Out := (come_ex (itoaB := itoaB) V r).choose
theorem comeV_path (V : ByteArray → Out) (r : Rule) : ∃ os, Path itoaB V r os ∧ nxt itoaB r os = .done (comeV itoaB V r) := (come_ex V r).choose_spec
theorem comeV_eq {V : ByteArray → Out} {r : Rule} {os : List Out} {o : Out} (h : Path itoaB V r os) (hd : nxt itoaB r os = .done o) : comeV itoaB V r = o := by
  obtain ⟨os', h1, h2⟩ := comeV_path (itoaB := itoaB) V r
  exact (h1.same h2 h hd).2
def Le (V V' : ByteArray → Out) : Prop := ∀ s, (V s).e ≠ 8 → V' s = V s
theorem come_mono {V V' : ByteArray → Out} (hl : Le V V') {r : Rule} (h8 : (comeV itoaB V r).e ≠ 8) : comeV itoaB V' r = comeV itoaB V r := by
  obtain ⟨os, h1, h2⟩ := comeV_path (itoaB := itoaB) V r
  have hf := h1.fine h2 h8
  exact comeV_eq (h1.ext2 fun s hs => hl s (hf _ hs)) h2
structure Env where
  rules : List Rule
  inp : ByteArray → Option ByteArray
def findR (E : Env) (s : ByteArray) : Option Nat := E.rules.findIdx? fun r => decide (r.name = s)
def ruleN (E : Env) (i : Nat) : Rule := E.rules.getD i ⟨noneB, 1, [], noneB⟩
def inOut (E : Env) (s : ByteArray) : Out := match E.inp s with | some t => ⟨t, 0⟩ | none => ⟨noneB, 3⟩
theorem inOut_e (E : Env) (s : ByteArray) : (inOut E s).e ≠ 8 := by unfold inOut; split <;> simp
theorem findR_lt {E : Env} {s : ByteArray} {i : Nat} (h : findR E s = some i) : i < E.rules.length := by
  unfold findR at h
  rw [List.findIdx?_eq_some_iff_getElem] at h
  exact h.1
theorem findR_name {E : Env} {s : ByteArray} {i : Nat} (h : findR E s = some i) : (ruleN E i).name = s := by
  have hl := findR_lt h
  unfold findR at h
  rw [List.findIdx?_eq_some_iff_getElem] at h
  unfold ruleN
  rw [List.getD_eq_getElem?_getD, List.getElem?_eq_getElem hl]
  simpa using h.2.1
variable (itoaB)
noncomputable def Vk (E : Env) : Nat → ByteArray → Out
  | 0, s => match findR E s with | none => inOut E s | some _ => cyc
  | k + 1, s => match findR E s with | none => inOut E s | some i => comeV itoaB (Vk E k) (ruleN E i)
variable {itoaB}
theorem Vk_inp {E : Env} {s : ByteArray} (h : findR E s = none) (k : Nat) : Vk itoaB E k s = inOut E s := by cases k <;> simp [Vk, h]
theorem Vk_zero {E : Env} {s : ByteArray} {i : Nat} (h : findR E s = some i) : Vk itoaB E 0 s = cyc := by simp [Vk, h]
theorem Vk_succ {E : Env} {s : ByteArray} {i : Nat} (h : findR E s = some i) (k : Nat) : Vk itoaB E (k + 1) s = comeV itoaB (Vk itoaB E k) (ruleN E i) := by simp [Vk, h]
theorem Vk_mono1 (E : Env) : ∀ k, Le (Vk itoaB E k) (Vk itoaB E (k + 1))
  | 0, s, h8 => by
    cases h : findR E s with
    | none => rw [Vk_inp h, Vk_inp h]
    | some i => rw [Vk_zero h] at h8; exact absurd rfl h8
  | k + 1, s, h8 => by
    cases h : findR E s with
    | none => rw [Vk_inp h, Vk_inp h]
    | some i =>
      rw [Vk_succ h] at h8
      rw [Vk_succ h, Vk_succ h]
      exact come_mono (Vk_mono1 E k) h8
theorem Vk_mono (E : Env) (k : Nat) : ∀ d, Le (Vk itoaB E k) (Vk itoaB E (k + d))
  | 0, _, _ => rfl
  | d + 1, s, h8 => by
    have h1 := Vk_mono E k d s h8
    rw [← h1] at h8
    rw [← h1]
    exact Vk_mono1 E (k + d) s h8
variable (itoaB)
/-- What a name comes to. -/
noncomputable def Vw (E : Env) (s : ByteArray) : Out := by
  classical
  exact if h : ∃ k, (Vk itoaB E k s).e ≠ 8 then Vk itoaB E h.choose s else cyc
variable {itoaB}
theorem Vw_of {E : Env} {s : ByteArray} {k : Nat} (h : (Vk itoaB E k s).e ≠ 8) : Vw itoaB E s = Vk itoaB E k s := by
  have hx : ∃ k, (Vk itoaB E k s).e ≠ 8 := ⟨k, h⟩
  unfold Vw
  rw [dif_pos hx]
  have h2 := hx.choose_spec
  generalize hx.choose = m at h2
  rcases Nat.le_total k m with hl | hl
  · obtain ⟨d, rfl⟩ := Nat.le.dest hl
    exact Vk_mono E k d s h
  · obtain ⟨d, rfl⟩ := Nat.le.dest hl
    exact (Vk_mono E m d s h2).symm
theorem Vw_lev {E : Env} {s : ByteArray} (h : (Vw itoaB E s).e ≠ 8) : ∃ k, (Vk itoaB E k s).e ≠ 8 := by
  refine Classical.byContradiction fun hn => ?_
  unfold Vw at h
  rw [dif_neg hn] at h
  exact h rfl
theorem Vw_cyc {E : Env} {s : ByteArray} (h : (Vw itoaB E s).e = 8) : Vw itoaB E s = cyc := by
  unfold Vw at h ⊢
  split
  · rename_i hx
    rw [dif_pos hx] at h
    exact absurd h hx.choose_spec
  · rfl
theorem Vk_le (E : Env) (k : Nat) : Le (Vk itoaB E k) (Vw itoaB E) := fun _ h => Vw_of h
theorem Vw_inp {E : Env} {s : ByteArray} (h : findR E s = none) : Vw itoaB E s = inOut E s := by
  have : (Vk itoaB E 0 s).e ≠ 8 := by rw [Vk_inp h]; exact inOut_e E s
  rw [Vw_of this, Vk_inp h]
/-- One level for many. -/
theorem lev_all (E : Env) : ∀ (os : List ByteArray), (∀ s ∈ os, (Vw itoaB E s).e ≠ 8) → ∃ k, ∀ s ∈ os, (Vk itoaB E k s).e ≠ 8
  | [], _ => ⟨0, fun s h => by cases h⟩
  | s :: os, h => by
    obtain ⟨k, hk⟩ := lev_all E os fun x hx => h x (List.mem_cons_of_mem _ hx)
    obtain ⟨m, hm⟩ := Vw_lev (h s (List.mem_cons_self ..))
    refine ⟨k + m, fun x hx => ?_⟩
    rcases List.mem_cons.1 hx with rfl | hx
    · have := Vk_mono (itoaB := itoaB) E m k x hm
      rw [Nat.add_comm, this]
      exact hm
    · have := Vk_mono (itoaB := itoaB) E k m x (hk x hx)
      rw [this]
      exact hk x hx
theorem Path.names {V : ByteArray → Out} {r : Rule} {os : List Out} (h : Path itoaB V r os) : ∃ ns : List ByteArray, os = ns.map V := by
  induction h with
  | nil => exact ⟨[], rfl⟩
  | @snoc os j h hn ih =>
    obtain ⟨ns, e⟩ := ih
    exact ⟨ns ++ [r.refs.getD j noneB], by rw [List.map_append, ← e]; rfl⟩
/-- A whole way without a cycle is told at some level. -/
theorem lev_path {E : Env} {r : Rule} {os : List Out} (h : Path itoaB (Vw itoaB E) r os) (hf : ∀ x ∈ os, x.e ≠ 8) : ∃ k, Path itoaB (Vk itoaB E k) r os := by
  induction h with
  | nil => exact ⟨0, .nil⟩
  | @snoc os j h hn ih =>
    obtain ⟨k, hk⟩ := ih fun x hx => hf x (List.mem_append_left _ hx)
    obtain ⟨m, hm⟩ := Vw_lev (hf _ (List.mem_append_right _ (List.mem_singleton.2 rfl)))
    have h1 : Path itoaB (Vk itoaB E (k + m)) r os := hk.ext2 fun s hs => Vk_mono E k m s (hf _ (List.mem_append_left _ hs))
    have h2 : Vk itoaB E (k + m) (r.refs.getD j noneB) = Vw itoaB E (r.refs.getD j noneB) := by
      rw [Vw_of hm, Nat.add_comm]
      exact Vk_mono E m k _ hm
    refine ⟨k + m, ?_⟩
    rw [← h2]
    exact h1.snoc hn
theorem Vw_fix {E : Env} {s : ByteArray} {i : Nat} (h : findR E s = some i) : comeV itoaB (Vw itoaB E) (ruleN E i) = Vw itoaB E s := by
  by_cases h8 : (comeV itoaB (Vw itoaB E) (ruleN E i)).e = 8
  · have hn : (Vw itoaB E s).e = 8 := by
      refine Classical.byContradiction fun hn => ?_
      obtain ⟨k, hk⟩ := Vw_lev hn
      cases k with
      | zero => rw [Vk_zero h] at hk; exact hk rfl
      | succ k =>
        rw [Vk_succ h] at hk
        rw [come_mono (Vk_le E k) hk] at h8
        exact hk h8
    rw [Vw_cyc hn]
    obtain ⟨os, h1, h2⟩ := comeV_path (itoaB := itoaB) (Vw itoaB E) (ruleN E i)
    have key : ∀ o, nxt itoaB (ruleN E i) os = .done o → o.e = 8 → ∃ x ∈ os, x = o := by
      intro o ho h8
      rcases List.eq_nil_or_concat os with rfl | ⟨os', y, rfl⟩
      · rw [nxt_nil] at ho
        unfold nxtOk at ho
        split at ho
        · split at ho
          · cases ho
          · injection ho with ho
            rw [← ho] at h8
            split at h8 <;> simp at h8
        · cases ho
      · rw [List.concat_eq_append] at *
        rw [nxt_snoc] at ho
        split at ho
        · injection ho with ho
          exact ⟨y, List.mem_append_right _ (List.mem_singleton.2 rfl), ho⟩
        · rename_i hy
          unfold nxtOk at ho
          split at ho
          · split at ho
            · cases ho
            · injection ho with ho
              rw [← ho] at h8
              split at h8 <;> simp at h8
          · split at ho
            · cases ho
            · split at ho
              · cases ho
              · split at ho
                · injection ho with ho; rw [← ho] at h8; simp at h8
                · cases ho
            · rename_i a b rest hl
              split at ho
              · injection ho with ho
                subst ho
                exact ⟨b, by rw [hl]; simp, rfl⟩
              · split at ho <;> (injection ho with ho; rw [← ho] at h8; simp at h8)
    obtain ⟨x, hx, hxo⟩ := key _ h2 h8
    obtain ⟨ns, e⟩ := h1.names
    rw [e] at hx
    obtain ⟨a, _, ha⟩ := List.mem_map.1 hx
    rw [← hxo, ← ha]
    exact Vw_cyc (by rw [ha, hxo]; exact h8)
  · obtain ⟨os, h1, h2⟩ := comeV_path (itoaB := itoaB) (Vw itoaB E) (ruleN E i)
    obtain ⟨k, hk⟩ := lev_path h1 (h1.fine h2 h8)
    have h3 := comeV_eq hk h2
    have h4 : Vk itoaB E (k + 1) s = comeV itoaB (Vw itoaB E) (ruleN E i) := by rw [Vk_succ h, h3]
    rw [← h4]
    exact (Vw_of (by rw [h4]; exact h8)).symm
end Go.Proofs.YtjcaeoacgoklmaaDoor
