import Derived.Test.YtjcaeoacgoklmaaDoorGrC
namespace Go.Proofs.YtjcaeoacgoklmaaDoor
variable {itoaB : Nat → ByteArray}
def nameN (E : Env) (i : Nat) : ByteArray := (ruleN E i).name
/-- The names are unlike. -/
def Dist (E : Env) : Prop := ∀ i, i < E.rules.length → findR E (nameN E i) = some i
theorem Path.mid {V : ByteArray → Out} {r : Rule} {os rest : List Out} {y : Out} (h : Path itoaB V r (os ++ y :: rest)) : ∃ j, nxt itoaB r os = .ask j ∧ y = V (r.refs.getD j noneB) := by
  have : ∀ z : List Out, Path itoaB V r (os ++ y :: z) → ∃ j, nxt itoaB r os = .ask j ∧ y = V (r.refs.getD j noneB) := by
    intro z
    induction z using rev_ind with
    | h0 => intro hp; exact hp.inv.2
    | h1 z a ih =>
      intro hp
      have e : os ++ y :: (z ++ [a]) = (os ++ y :: z) ++ [a] := by simp
      rw [e] at hp
      exact ih hp.inv.1
  exact this rest h
theorem dem_lev {E : Env} {b c : Nat} (hd : Dem itoaB E b c) (hb : findR E (nameN E b) = some b) {k : Nat} (hk : (Vk itoaB E k (nameN E b)).e ≠ 8) : ∃ k', k = k' + 1 ∧ (Vk itoaB E k' (nameN E c)).e ≠ 8 := by
  cases k with
  | zero => rw [Vk_zero hb] at hk; exact absurd rfl hk
  | succ k =>
    refine ⟨k, rfl, ?_⟩
    rw [Vk_succ hb] at hk
    obtain ⟨l, j, h1, h2, h3, h4⟩ := hd
    obtain ⟨os, h5, h6⟩ := comeV_path (itoaB := itoaB) (Vk itoaB E k) (ruleN E b)
    have hf := h5.fine h6 hk
    have h7 : Path itoaB (Vw itoaB E) (ruleN E b) os := h5.ext2 fun s hs => Vk_le E k s (hf _ hs)
    obtain ⟨x, hx⟩ := (h1.path h2).prefix h7 h6
    subst hx
    cases x with
    | nil => rw [List.append_nil, h3] at h6; cases h6
    | cons y x =>
      obtain ⟨j', h8, h9⟩ := h5.mid
      rw [h3] at h8
      injection h8 with h8
      subst h8
      have := hf y (List.mem_append_right _ (List.mem_cons_self ..))
      rw [h9] at this
      have hn : (ruleN E b).refs.getD j noneB = nameN E c := (findR_name h4).symm
      rwa [hn] at this
theorem chain_lev {E : Env} (hE : Dist E) : ∀ {B : List Nat} {i c : Nat}, (∀ b ∈ B, b < E.rules.length) → i ∈ B → Chain itoaB E B → Top itoaB E B c → ∀ {k}, (Vk itoaB E k (nameN E i)).e ≠ 8 → ∃ k', k' < k ∧ (Vk itoaB E k' (nameN E c)).e ≠ 8
  | [], _, _, _, hi, _, _, _, _ => by cases hi
  | b :: B, i, c, hlt, hi, hc, ht, k, hk => by
    obtain ⟨hc1, hc2⟩ := hc
    rcases List.mem_cons.1 hi with rfl | hi
    · obtain ⟨k', rfl, h⟩ := dem_lev ht (hE _ (hlt _ (List.mem_cons_self ..))) hk
      exact ⟨k', by omega, h⟩
    · obtain ⟨k', h1, h2⟩ := chain_lev hE (fun b hb => hlt b (List.mem_cons_of_mem _ hb)) hi hc2 hc1 hk
      obtain ⟨k'', rfl, h⟩ := dem_lev ht (hE _ (hlt _ (List.mem_cons_self ..))) h2
      exact ⟨k'', by omega, h⟩
theorem chain_cyc {E : Env} (hE : Dist E) {B : List Nat} {i : Nat} (hlt : ∀ b ∈ B, b < E.rules.length) (hi : i ∈ B) (hc : Chain itoaB E B) (ht : Top itoaB E B i) : Vw itoaB E (nameN E i) = cyc := by
  have key : ∀ k, (Vk itoaB E k (nameN E i)).e = 8 := by
    intro k
    induction k using Nat.strongRecOn with
    | _ k ih =>
      refine Classical.byContradiction fun hn => ?_
      obtain ⟨k', h1, h2⟩ := chain_lev hE hlt hi hc ht hn
      exact h2 (ih k' h1)
  refine Vw_cyc (Classical.byContradiction fun hn => ?_)
  obtain ⟨k, hk⟩ := Vw_lev hn
  exact hk (key k)
/-- A rule whose own way is told by V comes to what V tells of it. -/
theorem way_val {E : Env} {i : Nat} (hi : findR E (nameN E i) = some i) {l : List (ByteArray × Out)} {o : Out} (hs : SCP itoaB (ruleN E i) l) (hv : Vcons (Vw itoaB E) l) (hd : nxt itoaB (ruleN E i) (l.map (·.2)) = .done o) : o = Vw itoaB E (nameN E i) := by
  rw [← Vw_fix hi]
  exact (comeV_eq (hs.path hv) hd).symm
theorem way_dem {E : Env} {i : Nat} {l : List (ByteArray × Out)} (hs : SCP itoaB (ruleN E i) l) (hv : Vcons (Vw itoaB E) l) {x : ByteArray × Out} (hx : x ∈ l) {j : Nat} (hj : findR E x.1 = some j) : Dem itoaB E i j := by
  obtain ⟨a, b, rfl⟩ := List.append_of_mem hx
  obtain ⟨k, h1, h2⟩ := hs.at
  exact ⟨a, k, hs.pre, fun y hy => hv y (List.mem_append_left _ hy), h1, by rw [← h2]; exact hj⟩
theorem cur_hv {E : Env} (hE : Dist E) {s : St} {B : List Nat} (h : InvS itoaB E s B) : ∀ {i}, i < E.rules.length → Cur s i → HV itoaB E s i := by
  have key : ∀ k i, i < E.rules.length → Cur s i → (Vk itoaB E k (nameN E i)).e ≠ 8 → HV itoaB E s i := by
    intro k
    induction k using Nat.strongRecOn with
    | _ k ih =>
      intro i hi hc hk
      have hB : i ∉ B := fun hB => h.nb i hB hc
      obtain ⟨h1, h2, h3⟩ := h.self i hi hB hc.1
      obtain ⟨h4, h5⟩ := h.cur i hi hB hc
      refine HV.mk hc.1 h1 h2 h3 h4 fun x hx j hj => ?_
      obtain ⟨k', rfl, h6⟩ := dem_lev (way_dem h1 h4 hx hj) (hE i hi) hk
      exact ih k' (by omega) j (findR_lt hj) (h5 x hx j hj) h6
  intro i hi hc
  have hB : i ∉ B := fun hB => h.nb i hB hc
  obtain ⟨h1, h2, h3⟩ := h.self i hi hB hc.1
  obtain ⟨h4, _⟩ := h.cur i hi hB hc
  have := way_val (hE i hi) h1 h4 h2
  rw [this] at h3
  obtain ⟨k, hk⟩ := Vw_lev h3
  exact key k i hi hc hk
open Classical in
noncomputable def cntC (E : Env) (s : St) : Nat := (List.range E.rules.length).countP fun i => decide (Cur s i)
theorem cntC_le {E : Env} {s s' : St} (h : ∀ i, Cur s i → Cur s' i) : cntC E s ≤ cntC E s' := by
  unfold cntC
  exact List.countP_mono_left fun i _ hi => by simp only [decide_eq_true_eq] at *; exact h i hi
open Classical in
theorem cntC_lt {E : Env} {s s' : St} (h : ∀ i, Cur s i → Cur s' i) {i : Nat} (hi : i < E.rules.length) (h1 : ¬ Cur s i) (h2 : Cur s' i) : cntC E s + 1 ≤ cntC E s' := by
  unfold cntC
  generalize hl : List.range E.rules.length = l
  have hm : i ∈ l := by rw [← hl]; exact List.mem_range.2 hi
  clear hl
  induction l with
  | nil => cases hm
  | cons a l ih =>
    rw [List.countP_cons, List.countP_cons]
    rcases List.mem_cons.1 hm with rfl | hm
    · rw [if_neg (by simpa using h1), if_pos (by simpa using h2)]
      have : l.countP (fun i => decide (Cur s i)) ≤ l.countP fun i => decide (Cur s' i) := List.countP_mono_left fun i _ hi => by simp only [decide_eq_true_eq] at *; exact h i hi
      omega
    · have := ih hm
      by_cases ha : Cur s a
      · have := h a ha
        simp [ha, this]
        omega
      · by_cases hb : Cur s' a
        · simp [ha, hb]; omega
        · simp [ha, hb]; omega
theorem cntC_max {E : Env} {s : St} : cntC E s ≤ E.rules.length := by
  unfold cntC
  exact Nat.le_trans List.countP_le_length (by simp)
section
variable (itoaB)
/-- What a step does. -/
structure Tr (E : Env) (B : List Nat) (s s' : St) : Prop where
  sets : s'.sets = s.sets
  keepB : ∀ b, b ∈ B → s'.nd b = s.nd b
  same : ∀ k, HV itoaB E s k → (s'.nd k).kept = (s.nd k).kept ∧ (s'.nd k).asked = (s.nd k).asked ∧ (s'.nd k).came = (s.nd k).came
  cur : ∀ k, Cur s k → Cur s' k
  unk : ∀ k, (Vw itoaB E (nameN E k)).e = 8 → (s.nd k).kept = false → (s'.nd k).kept = false
  runs1 : s.runs ≤ s'.runs
  runs2 : s'.runs - s.runs ≤ (cntC E s' : Int) - cntC E s
/-- What is asked again works nothing out. -/
inductive Done (E : Env) (s : St) : List Nat → ByteArray → Prop
  | inp {B : List Nat} {a : ByteArray} (h : findR E a = none) : Done E s B a
  | busy {B : List Nat} {a : ByteArray} {i : Nat} (h : findR E a = some i) (hb : i ∈ B) : Done E s B a
  | hv {B : List Nat} {a : ByteArray} {i : Nat} (h : findR E a = some i) (hh : HV itoaB E s i) : Done E s B a
  | cyc {B : List Nat} {a : ByteArray} {i : Nat} (h : findR E a = some i) (h8 : (Vw itoaB E a).e = 8) (hk : (s.nd i).kept = false) (hc : ∀ l j, SCP itoaB (ruleN E i) l → Vcons (Vw itoaB E) l → nxt itoaB (ruleN E i) (l.map (·.2)) = .ask j → Done E s (i :: B) ((ruleN E i).refs.getD j noneB)) : Done E s B a
end
def RB (E : Env) (s : St) : Prop := 0 ≤ s.runs ∧ s.runs - cntC E s ≤ 1000000000000
theorem RB.tr {E : Env} {B : List Nat} {s s' : St} (hr : RB E s) (h : Tr itoaB E B s s') : RB E s' := ⟨by have := h.runs1; have := hr.1; omega, by have := h.runs2; have := hr.2; omega⟩
theorem Tr.hv {E : Env} {B : List Nat} {s s' : St} (h : Tr itoaB E B s s') {k : Nat} (hk : HV itoaB E s k) : HV itoaB E s' k := by
  induction hk with
  | @mk i hk hs hd he hv ha ih =>
    obtain ⟨e1, e2, e3⟩ := h.same i (HV.mk hk hs hd he hv ha)
    refine HV.mk (by rw [e1]; exact hk) (by rw [e2]; exact hs) (by rw [e2, e3]; exact hd) (by rw [e3]; exact he) (by rw [e2]; exact hv) (by rw [e2]; exact ih)
theorem Tr.refl (E : Env) (B : List Nat) (s : St) : Tr itoaB E B s s := ⟨rfl, fun _ _ => rfl, fun _ _ => ⟨rfl, rfl, rfl⟩, fun _ h => h, fun _ _ h => h, Int.le_refl _, by omega⟩
theorem Tr.trans {E : Env} {B : List Nat} {a b c : St} (h : Tr itoaB E B a b) (h' : Tr itoaB E B b c) : Tr itoaB E B a c := by
  refine ⟨h'.sets.trans h.sets, fun k hk => (h'.keepB k hk).trans (h.keepB k hk), fun k hk => ?_, fun k hk => h'.cur k (h.cur k hk), fun k h8 hk => h'.unk k h8 (h.unk k h8 hk), Int.le_trans h.runs1 h'.runs1, ?_⟩
  · obtain ⟨x1, x2, x3⟩ := h.same k hk
    obtain ⟨y1, y2, y3⟩ := h'.same k (h.hv hk)
    exact ⟨y1.trans x1, y2.trans x2, y3.trans x3⟩
  · have := h.runs2; have := h'.runs2; omega
theorem Tr.less {E : Env} {B B' : List Nat} {s s' : St} (h : Tr itoaB E B s s') (hB : ∀ b, b ∈ B' → b ∈ B) : Tr itoaB E B' s s' := ⟨h.sets, fun k hk => h.keepB k (hB k hk), h.same, h.cur, h.unk, h.runs1, h.runs2⟩
theorem Done.tr {E : Env} {s s' : St} {B : List Nat} {a : ByteArray} (hd : Done itoaB E s B a) : ∀ {B' : List Nat}, Tr itoaB E B' s s' → Done itoaB E s' B a := by
  intro B' h
  induction hd with
  | inp h1 => exact .inp h1
  | busy h1 h2 => exact .busy h1 h2
  | hv h1 h2 => exact .hv h1 (h.hv h2)
  | @cyc B a i h1 h8 hk hc ih =>
    refine .cyc h1 h8 (h.unk i ?_ hk) ih
    have : nameN E i = a := findR_name h1
    rw [this]
    exact h8
end Go.Proofs.YtjcaeoacgoklmaaDoor
