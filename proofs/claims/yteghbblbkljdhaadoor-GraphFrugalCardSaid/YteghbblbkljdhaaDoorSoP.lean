import Derived.KernelRfl
namespace Go.Proofs.YteghbblbkljdhaaDoor
variable {α : Type}
/-- Two places changed for one another. -/
def swp (f : Nat → α) (i j : Nat) : Nat → α := fun k => if k = i then f j else if k = j then f i else f k
def upd (f : Nat → α) (i : Nat) (x : α) : Nat → α := fun k => if k = i then x else f k
/-- At how many of the first n places p holds. -/
def cnt (p : α → Bool) (f : Nat → α) : Nat → Nat
  | 0 => 0
  | n + 1 => cnt p f n + (if p (f n) = true then 1 else 0)
theorem cnt_ext {p : α → Bool} {f g : Nat → α} : ∀ {n : Nat}, (∀ k, k < n → f k = g k) → cnt p f n = cnt p g n
  | 0, _ => rfl
  | n + 1, h => by
    unfold cnt
    rw [cnt_ext (n := n) (fun k hk => h k (by omega)), h n (by omega)]
theorem cnt_upd (p : α → Bool) (f : Nat → α) (i : Nat) (x : α) : ∀ n, i < n → cnt p (upd f i x) n + (if p (f i) = true then 1 else 0) = cnt p f n + (if p x = true then 1 else 0)
  | 0, h => by omega
  | n + 1, h => by
    unfold cnt
    by_cases hi : i = n
    · subst hi
      have h1 : cnt p (upd f i x) i = cnt p f i := cnt_ext (fun k hk => by unfold upd; rw [if_neg (by omega)])
      have h2 : upd f i x i = x := by unfold upd; rw [if_pos rfl]
      rw [h1, h2]
      omega
    · have h1 := cnt_upd p f i x n (by omega)
      have h2 : upd f i x n = f n := by unfold upd; rw [if_neg (by omega)]
      rw [h2]
      omega
theorem swp_upd (f : Nat → α) (i j : Nat) : swp f i j = upd (upd f j (f i)) i (f j) := by
  funext k
  unfold swp upd
  rfl
theorem cnt_swp (p : α → Bool) (f : Nat → α) {i j n : Nat} (hi : i < n) (hj : j < n) : cnt p (swp f i j) n = cnt p f n := by
  rw [swp_upd]
  have h1 := cnt_upd p (upd f j (f i)) i (f j) n hi
  have h2 := cnt_upd p f j (f i) n hj
  by_cases hij : i = j
  · subst hij
    have h3 : upd f i (f i) i = f i := by unfold upd; rw [if_pos rfl]
    rw [h3] at h1
    omega
  · have h3 : upd f j (f i) i = f i := by unfold upd; rw [if_neg hij]
    rw [h3] at h1
    omega
/-- f' is f, but that the places from a up to b are in another order. -/
structure Seg (n a b : Nat) (f f' : Nat → α) : Prop where
  out : ∀ k, k < a ∨ b ≤ k → f' k = f k
  inn : ∀ P : α → Prop, (∀ k, a ≤ k → k < b → P (f k)) → ∀ k, a ≤ k → k < b → P (f' k)
  same : ∀ p, cnt p f' n = cnt p f n
theorem Seg.refl (n a b : Nat) (f : Nat → α) : Seg n a b f f := ⟨fun _ _ => rfl, fun _ h => h, fun _ => rfl⟩
theorem Seg.trans {n a b : Nat} {f g h : Nat → α} (h1 : Seg n a b f g) (h2 : Seg n a b g h) : Seg n a b f h :=
  ⟨fun k hk => (h2.out k hk).trans (h1.out k hk), fun P hP => h2.inn P (h1.inn P hP), fun p => (h2.same p).trans (h1.same p)⟩
theorem Seg.widen {n a b a' b' : Nat} {f g : Nat → α} (h : Seg n a b f g) (ha : a' ≤ a) (hb : b ≤ b') : Seg n a' b' f g :=
  ⟨fun k hk => h.out k (by omega), fun P hP k hk hk' => by
    by_cases hin : a ≤ k ∧ k < b
    · exact h.inn P (fun j hj hj' => hP j (by omega) (by omega)) k hin.1 hin.2
    · rw [h.out k (by omega)]
      exact hP k hk hk', h.same⟩
theorem Seg.swap {n a b i j : Nat} (f : Nat → α) (hi : a ≤ i) (hi' : i < b) (hj : a ≤ j) (hj' : j < b) (hn : b ≤ n) : Seg n a b f (swp f i j) := by
  refine ⟨fun k hk => ?_, fun P hP k hk hk' => ?_, fun p => cnt_swp p f (by omega) (by omega)⟩
  · unfold swp
    rw [if_neg (by omega), if_neg (by omega)]
  · unfold swp
    split
    · exact hP j hj hj'
    · split
      · exact hP i hi hi'
      · exact hP k hk hk'
/-- What an order is that tells of any two unlike ones which is the lesser. -/
structure Ord (lt : α → α → Prop) : Prop where
  irr : ∀ a, ¬ lt a a
  trans : ∀ {a b c}, lt a b → lt b c → lt a c
  tot : ∀ {a b}, ¬ lt a b → ¬ lt b a → a = b
theorem Ord.asymm {lt : α → α → Prop} (h : Ord lt) {a b : α} (h1 : lt a b) : ¬ lt b a := fun h2 => h.irr a (h.trans h1 h2)
/-- not greater, and not greater. -/
theorem Ord.le_trans {lt : α → α → Prop} (h : Ord lt) {a b c : α} (h1 : ¬ lt b a) (h2 : ¬ lt c b) : ¬ lt c a := by
  intro h3
  by_cases h4 : lt a b
  · exact h2 (h.trans h3 h4)
  · have := h.tot h4 h1
    subst this
    exact h2 h3
def Srt (lt : α → α → Prop) (f : Nat → α) (a b : Nat) : Prop := ∀ i j, a ≤ i → i < j → j < b → ¬ lt (f j) (f i)
theorem Srt.sub {lt : α → α → Prop} {f : Nat → α} {a b a' b' : Nat} (h : Srt lt f a b) (ha : a ≤ a') (hb : b' ≤ b) : Srt lt f a' b' :=
  fun i j h1 h2 h3 => h i j (by omega) h2 (by omega)
theorem Srt.ext {lt : α → α → Prop} {f g : Nat → α} {a b : Nat} (h : Srt lt f a b) (he : ∀ k, a ≤ k → k < b → g k = f k) : Srt lt g a b :=
  fun i j h1 h2 h3 => by rw [he j (by omega) h3, he i h1 (by omega)]; exact h i j h1 h2 h3
theorem Srt.one {lt : α → α → Prop} {f : Nat → α} {a b : Nat} (h : b ≤ a + 1) : Srt lt f a b := fun i j h1 h2 h3 => by omega
/-- Two sorted pieces of which each of the first is no greater than each of the second. -/
theorem Srt.join {lt : α → α → Prop} {f : Nat → α} {a m b : Nat} (h1 : Srt lt f a m) (h2 : Srt lt f m b) (h : ∀ i j, a ≤ i → i < m → m ≤ j → j < b → ¬ lt (f j) (f i)) : Srt lt f a b := by
  intro i j hi hij hj
  by_cases h3 : j < m
  · exact h1 i j hi hij h3
  · by_cases h4 : m ≤ i
    · exact h2 i j h4 hij hj
    · exact h i j hi (by omega) (by omega) hj
theorem cnt_ge {p : α → Bool} {f : Nat → α} {k : Nat} : ∀ {n : Nat}, k ≤ n → (∀ i, i < k → p (f i) = true) → k ≤ cnt p f n
  | 0, h, _ => by omega
  | n + 1, h, hp => by
    unfold cnt
    by_cases hk : k = n + 1
    · subst hk
      have := cnt_ge (p := p) (f := f) (k := n) (n := n) (Nat.le_refl _) (fun i hi => hp i (by omega))
      rw [if_pos (hp n (by omega))]
      omega
    · have := cnt_ge (p := p) (f := f) (k := k) (n := n) (by omega) hp
      omega
theorem cnt_le {p : α → Bool} {f : Nat → α} {k : Nat} : ∀ {n : Nat}, (∀ i, k ≤ i → i < n → p (f i) = false) → cnt p f n ≤ k
  | 0, _ => by simp [cnt]
  | n + 1, hp => by
    unfold cnt
    by_cases hk : k ≤ n
    · have := cnt_le (p := p) (f := f) (k := k) (n := n) (fun i h1 h2 => hp i h1 (by omega))
      rw [hp n hk (by omega)]
      simpa using this
    · have h1 : ∀ m, cnt p f m ≤ m := fun m => by
        induction m with
        | zero => simp [cnt]
        | succ m ih => unfold cnt; split <;> omega
      have := h1 n
      split <;> omega
/-- What is sorted is told by what it holds. -/
theorem srt_unique {lt : α → α → Prop} (ho : Ord lt) {f g : Nat → α} {n : Nat} (hf : Srt lt f 0 n) (hg : Srt lt g 0 n) (h : ∀ p, cnt p f n = cnt p g n) : ∀ k, k < n → f k = g k := by
  classical
  have key : ∀ (f g : Nat → α), Srt lt f 0 n → Srt lt g 0 n → (∀ p, cnt p f n = cnt p g n) → ∀ k, k < n → ¬ lt (f k) (g k) := by
    intro f g hf hg h k hk hlt
    have h1 : k + 1 ≤ cnt (fun y => decide (¬ lt (f k) y)) f n := cnt_ge (by omega) (fun i hi => by
      refine decide_eq_true ?_
      by_cases hik : i = k
      · subst hik; exact ho.irr _
      · exact hf i k (by omega) (by omega) hk)
    have h2 : cnt (fun y => decide (¬ lt (f k) y)) g n ≤ k := cnt_le (fun i h1 h2 => by
      refine decide_eq_false (fun h3 => h3 ?_)
      by_cases hik : i = k
      · subst hik; exact hlt
      · have h4 := hg k i (by omega) (by omega) h2
        by_cases h5 : lt (g k) (g i)
        · exact ho.trans hlt h5
        · rw [← ho.tot h5 h4]; exact hlt)
    rw [h] at h1
    omega
  intro k hk
  exact ho.tot (key f g hf hg h k hk) (key g f hg hf (fun p => (h p).symm) k hk)
/-- The places from a up to e, the first one behind the others. -/
def shl (f : Nat → α) (a e : Nat) : Nat → α := fun k => if a ≤ k ∧ k + 1 < e then f (k + 1) else if a ≤ k ∧ k + 1 = e then f a else f k
theorem shl_start (f : Nat → α) (a : Nat) : shl f a (a + 1) = f := by
  funext k
  unfold shl
  split
  · omega
  · split
    · rename_i h; rw [show k = a by omega]
    · rfl
theorem shl_step (f : Nat → α) (a k : Nat) (h : a ≤ k) : swp (shl f a (k + 1)) k (k + 1) = shl f a (k + 2) := by
  funext x
  unfold swp shl
  by_cases h1 : x = k
  · subst h1
    rw [if_pos rfl, if_neg (by omega), if_neg (by omega), if_pos (by omega)]
  · rw [if_neg h1]
    by_cases h2 : x = k + 1
    · subst h2
      rw [if_pos rfl, if_neg (by omega), if_pos (by omega), if_neg (by omega), if_pos (by omega)]
    · rw [if_neg h2]
      by_cases h3 : a ≤ x ∧ x + 1 < k + 1
      · rw [if_pos h3, if_pos (by omega)]
      · rw [if_neg h3, if_neg (by omega), if_neg (by omega), if_neg (by omega)]
/-- The places from i up to m, and m itself, the last one ahead of the others. -/
def shr (f : Nat → α) (i m : Nat) : Nat → α := fun k => if k = i then f m else if i < k ∧ k ≤ m then f (k - 1) else f k
theorem shr_start (f : Nat → α) (m : Nat) : shr f m m = f := by
  funext k
  unfold shr
  split
  · rename_i h; rw [h]
  · split
    · omega
    · rfl
theorem shr_step (f : Nat → α) (k m : Nat) (hk : k + 1 ≤ m) : swp (shr f (k + 1) m) (k + 1) k = shr f k m := by
  funext x
  unfold swp shr
  by_cases h1 : x = k + 1
  · subst h1
    rw [if_pos rfl, if_neg (by omega), if_neg (by omega), if_neg (by omega), if_pos (by omega)]
    rfl
  · rw [if_neg h1]
    by_cases h2 : x = k
    · subst h2
      rw [if_pos rfl, if_pos rfl, if_pos rfl]
    · rw [if_neg h2, if_neg h2, if_neg h1]
      by_cases h3 : k + 1 < x ∧ x ≤ m
      · rw [if_pos h3, if_pos (by omega)]
      · rw [if_neg h3, if_neg (by omega)]
/-- One that is no less than those ahead of i, less than those from i on, put there. -/
theorem shr_srt {lt : α → α → Prop} (ho : Ord lt) {f : Nat → α} {a i m : Nat} (hs : Srt lt f a m) (hai : a ≤ i) (him : i ≤ m) (h1 : ∀ k, a ≤ k → k < i → ¬ lt (f m) (f k)) (h2 : ∀ k, i ≤ k → k < m → lt (f m) (f k)) : Srt lt (shr f i m) a (m + 1) := by
  intro x y hx hxy hy
  unfold shr
  by_cases hxi : x = i
  · rw [if_pos hxi, if_neg (by omega), if_pos (by omega)]
    exact ho.asymm (h2 (y - 1) (by omega) (by omega))
  · rw [if_neg hxi]
    by_cases hyi : y = i
    · rw [if_pos hyi, if_neg (by omega)]
      exact h1 x hx (by omega)
    · rw [if_neg hyi]
      by_cases hx2 : i < x ∧ x ≤ m
      · rw [if_pos hx2, if_pos (by omega)]
        exact hs (x - 1) (y - 1) (by omega) (by omega) (by omega)
      · rw [if_neg hx2]
        by_cases hy2 : i < y ∧ y ≤ m
        · rw [if_pos hy2]
          by_cases hxy1 : x = y - 1
          · rw [hxy1]; exact ho.irr _
          · exact hs x (y - 1) hx (by omega) (by omega)
        · rw [if_neg hy2]
          exact hs x y hx hxy (by omega)
/-- One that is greater than those up to i, no greater than those from i on, put ahead of i. -/
theorem shl_srt {lt : α → α → Prop} (ho : Ord lt) {f : Nat → α} {a i b : Nat} (hs : Srt lt f (a + 1) b) (hai : a + 1 ≤ i) (hib : i ≤ b) (h1 : ∀ k, a + 1 ≤ k → k < i → lt (f k) (f a)) (h2 : ∀ k, i ≤ k → k < b → ¬ lt (f k) (f a)) : Srt lt (shl f a i) a b := by
  intro x y hx hxy hy
  unfold shl
  by_cases hx1 : a ≤ x ∧ x + 1 < i
  · rw [if_pos hx1]
    by_cases hy1 : a ≤ y ∧ y + 1 < i
    · rw [if_pos hy1]
      exact hs (x + 1) (y + 1) (by omega) (by omega) (by omega)
    · rw [if_neg hy1]
      by_cases hy2 : a ≤ y ∧ y + 1 = i
      · rw [if_pos hy2]
        exact ho.asymm (h1 (x + 1) (by omega) (by omega))
      · rw [if_neg hy2]
        exact hs (x + 1) y (by omega) (by omega) hy
  · rw [if_neg hx1]
    by_cases hx2 : a ≤ x ∧ x + 1 = i
    · rw [if_pos hx2, if_neg (by omega), if_neg (by omega)]
      exact h2 y (by omega) hy
    · rw [if_neg hx2, if_neg (by omega), if_neg (by omega)]
      exact hs x y (by omega) hxy hy
/-- n places from a on changed for those from b on. -/
def swr (f : Nat → α) (a b n : Nat) : Nat → α := fun k => if a ≤ k ∧ k < a + n then f (k - a + b) else if b ≤ k ∧ k < b + n then f (k - b + a) else f k
theorem swr_start (f : Nat → α) (a b : Nat) : swr f a b 0 = f := by
  funext k
  unfold swr
  rw [if_neg (by omega), if_neg (by omega)]
theorem swr_step (f : Nat → α) (a b n i : Nat) (h : a + n ≤ b) (hi : i < n) : swp (swr f a b i) (a + i) (b + i) = swr f a b (i + 1) := by
  funext x
  unfold swp swr
  by_cases h1 : x = a + i
  · subst h1
    rw [if_pos rfl, if_neg (by omega), if_neg (by omega), if_pos (by omega), show a + i - a + b = b + i by omega]
  · rw [if_neg h1]
    by_cases h2 : x = b + i
    · subst h2
      rw [if_pos rfl, if_neg (by omega), if_neg (by omega), if_neg (by omega), if_pos (by omega), show b + i - b + a = a + i by omega]
    · rw [if_neg h2]
      by_cases h3 : a ≤ x ∧ x < a + i
      · rw [if_pos h3, if_pos (by omega)]
      · rw [if_neg h3]
        by_cases h4 : b ≤ x ∧ x < b + i
        · rw [if_pos h4, if_neg (show ¬ (a ≤ x ∧ x < a + (i + 1)) by omega), if_pos (by omega)]
        · rw [if_neg h4, if_neg (show ¬ (a ≤ x ∧ x < a + (i + 1)) by omega), if_neg (by omega)]
/-- The places from lo up to m behind those from m up to hi. -/
def rot (f : Nat → α) (lo m hi : Nat) : Nat → α := fun k => if k < lo ∨ hi ≤ k then f k else if k < lo + (hi - m) then f (k + (m - lo)) else f (k - (hi - m))
theorem rot_end (f : Nat → α) (m i : Nat) (hi : i ≤ m) : rot f (m - i) m (m + i) = swr f (m - i) m i := by
  funext k
  unfold rot swr
  by_cases h1 : k < m - i ∨ m + i ≤ k
  · rw [if_pos h1, if_neg (by omega), if_neg (by omega)]
  · rw [if_neg h1]
    by_cases h2 : k < m - i + (m + i - m)
    · rw [if_pos h2, if_pos (by omega)]
      exact congrArg f (by omega)
    · rw [if_neg h2, if_neg (by omega), if_pos (by omega)]
      exact congrArg f (by omega)
theorem rot_left (f : Nat → α) (m i j : Nat) (hi : i ≤ m) (h : j < i) : rot (swr f (m - i) m j) (m - (i - j)) m (m + j) = rot f (m - i) m (m + j) := by
  funext k
  unfold rot swr
  by_cases h1 : k < m - i ∨ m + j ≤ k
  · rw [if_pos (by omega), if_neg (by omega), if_neg (by omega), if_pos h1]
  · rw [if_neg h1]
    by_cases h2 : k < m - (i - j)
    · rw [if_pos (Or.inl h2), if_pos (by omega), if_pos (by omega)]
      exact congrArg f (by omega)
    · rw [if_neg (by omega)]
      by_cases h3 : k < m - (i - j) + (m + j - m)
      · rw [if_pos h3]
        by_cases h4 : m - i ≤ k + (m - (m - (i - j))) ∧ k + (m - (m - (i - j))) < m - i + j
        · omega
        · rw [if_neg h4, if_pos (by omega), if_neg (by omega)]
          exact congrArg f (by omega)
      · rw [if_neg h3]
        by_cases h4 : m - i ≤ k - (m + j - m) ∧ k - (m + j - m) < m - i + j
        · omega
        · rw [if_neg h4, if_neg (by omega), if_neg (by omega)]
theorem rot_right (f : Nat → α) (m i j : Nat) (hi : i ≤ m) (h : i < j) : rot (swr f (m - i) (m + j - i) i) (m - i) m (m + (j - i)) = rot f (m - i) m (m + j) := by
  funext k
  unfold rot swr
  by_cases h1 : k < m - i ∨ m + j ≤ k
  · rw [if_pos (by omega), if_neg (by omega), if_neg (by omega), if_pos h1]
  · rw [if_neg h1]
    by_cases h2 : m + (j - i) ≤ k
    · rw [if_pos (Or.inr h2), if_neg (by omega), if_pos (by omega), if_neg (by omega)]
      exact congrArg f (by omega)
    · rw [if_neg (by omega)]
      by_cases h3 : k < m - i + (m + (j - i) - m)
      · rw [if_pos h3, if_neg (by omega), if_neg (by omega), if_pos (by omega)]
      · rw [if_neg h3, if_pos (by omega), if_pos (by omega)]
        exact congrArg f (by omega)
theorem swr_seg (f : Nat → α) (N a b n : Nat) (h : a + n ≤ b) (hb : b + n ≤ N) {lo hi : Nat} (hlo : lo ≤ a) (hhi : b + n ≤ hi) (hhn : hi ≤ N) : ∀ i, i ≤ n → Seg N lo hi f (swr f a b i)
  | 0, _ => by rw [swr_start]; exact Seg.refl _ _ _ _
  | i + 1, hi => by
    rw [← swr_step f a b n i h (by omega)]
    exact (swr_seg f N a b n h hb hlo hhi hhn i (by omega)).trans (Seg.swap _ (by omega) (by omega) (by omega) (by omega) hhn)
end Go.Proofs.YteghbblbkljdhaaDoor
