import Derived.Test.YtlgklkokadbpeaaDoorStRc
namespace Go.Proofs.YtlgklkokadbpeaaDoor
open Go.RowKit Go.Maps Go.ChangeMaps Go.Sort
theorem heap_lt {w : World} {g : Nat} {o : Obj} (h : w.heap[g]? = some o) : g < w.heap.size := by
  rcases Nat.lt_or_ge g w.heap.size with hh | hh
  · exact hh
  · rw [Array.getElem?_eq_none hh] at h; cases h
theorem cell_no_map {W : World} {b k : Nat} {v : Value} (h : W.cell? ⟨b, k, none⟩ = some v) : ∀ es c, W.heap[b]? ≠ some (.map es c) := by
  intro es c e
  unfold World.cell? at h
  simp [e] at h
theorem own_map {W : World} {R n : Nat} {D : DataW Unit} (h : W.ownsMap Tryd.prog 9 fileR R n D) : ∃ es c, W.heap[R]? = some (.map es c) := by
  obtain ⟨es, clock, hb, _⟩ := h
  exact ⟨es, clock, hb⟩
/-- The blocks that a call on the store at b leaves alone. -/
def kS (W : World) (B0 b : Nat) : Nat → Prop := fun k => k < W.heap.size ∧ (k < B0 ∨ (k ≠ b ∧ ∀ es c, W.heap[k]? ≠ some (.map es c)))
theorem St.wide {W : World} {B0 b : Nat} {L : List Fi} {n : Int} (h : St W (fun k => k < B0) b L n) : St W (kS W B0 b) b L n := by
  refine ⟨h.c0, ?_, h.fz, fun e => ?_⟩
  · rcases h.c1 with h1 | ⟨R, h1, h2, h3, h4⟩
    · exact .inl h1
    · refine .inr ⟨R, h1, h2, fun e => ?_, h4⟩
      rcases e.2 with e | e
      · exact h3 e
      · obtain ⟨es, c, hm⟩ := own_map h2
        exact e.2 es c hm
  · rcases e.2 with e | e
    · exact h.ge e
    · exact e.1 rfl
/-- The other way: with what is asked of the whole of it. -/
theorem St.narrow {W w' : World} {B0 b : Nat} {L : List Fi} {n : Int} (h : St w' (kS W B0 b) b L n) (hB : B0 ≤ W.heap.size) : St w' (fun k => k < B0) b L n := by
  refine ⟨h.c0, ?_, h.fz, fun e => h.ge ⟨by omega, .inl e⟩⟩
  rcases h.c1 with h1 | ⟨R, h1, h2, h3, h4⟩
  · exact .inl h1
  · exact .inr ⟨R, h1, h2, fun e => h3 ⟨by omega, .inl e⟩, h4⟩
/-- The store stays where its block and its map's are kept. -/
theorem St.kp {W w' : World} {B : Nat → Prop} {b b' : Nat} {L : List Fi} {n : Int} {v : Value} (h : St W B b L n) (hk : Kp (fun k => k ≠ b') W w') (hne : b ≠ b') (hc : W.cell? ⟨b', 0, none⟩ = some v) : St w' B b L n := by
  have hl := h.lt
  refine ⟨(hk.cell (p := ⟨b, 0, none⟩) hne hl).trans h.c0, ?_, fun k => (hk.frozen (p := ⟨b, k, none⟩) hne hl).trans (h.fz k), h.ge⟩
  rcases h.c1 with ⟨h1, h2⟩ | ⟨R, h1, h2, h3, h4⟩
  · exact .inl ⟨(hk.cell (p := ⟨b, 1, none⟩) hne hl).trans h1, h2⟩
  · refine .inr ⟨R, (hk.cell (p := ⟨b, 1, none⟩) hne hl).trans h1, ?_, h3, h4⟩
    have hlR := h2.lt
    obtain ⟨es, clock, hb, F, hs, e⟩ := h2
    refine ⟨es, clock, (hk.block R (fun e => ?_) hlR).trans hb, F, hs, e⟩
    subst e
    exact cell_no_map hc es clock hb
/-- The reference's store stays behind a call on the store at b. -/
theorem RSt.kp {W w' : World} {B0 B b b' : Nat} {A : Option Addr} {c : Nat} {L : List Fi} {n : Int} (h : RSt W B b' A c L n) (hk : Kp (kS W B0 b) W w') (hlt : b < b') : RSt w' B b' A c L n := by
  have hl : b' < W.heap.size := World.block_lt_of_cell? W ⟨b', 0, none⟩ h.c0
  have hK : kS W B0 b b' := ⟨hl, .inr ⟨by omega, cell_no_map h.c0⟩⟩
  refine ⟨(hk.cell (p := ⟨b', 0, none⟩) hK hl).trans h.c0, (hk.cell (p := ⟨b', 1, none⟩) hK hl).trans h.c1, own_kp h.own hk (fun g hg hc => ?_), fun k => (hk.frozen (p := ⟨b', k, none⟩) hK hl).trans (h.fz k), h.ge⟩
  obtain ⟨cur, hc⟩ := hc
  refine ⟨heap_lt hc, .inr ⟨by omega, fun es c e => ?_⟩⟩
  rw [e] at hc
  cases hc
theorem tabs_kp {w w' : World} {K : Nat → Prop} (h : Lib.Utf8Tabs 0 1 w) (hb : Kp K w w') (h0 : K 0) (h1 : K 1) : Lib.Utf8Tabs 0 1 w' :=
  ⟨fun c hc => (hb.cell h0 (World.block_lt_of_cell? _ _ (h.1 c hc))).trans (h.1 c hc), fun i hi => ⟨(hb.cell h1 (World.block_lt_of_cell? _ _ (h.2 i hi).1)).trans (h.2 i hi).1, (hb.cell h1 (World.block_lt_of_cell? _ _ (h.2 i hi).2)).trans (h.2 i hi).2⟩⟩
/-- What is true of all files that are put. -/
structure Good (L : List Fi) : Prop where
  rise : Rise L
  len : L.length ≤ 64
  ok : ∀ f ∈ L, f.n.size ≤ 64 ∧ f.t.size ≤ 262144
theorem Good.nil : Good [] := ⟨by simp [Rise], by simp, fun _ h => by cases h⟩
theorem name_size {s : ByteArray} (h : nameR s = true) : s.size ≤ 64 := by
  unfold nameR at h
  simp only [Bool.and_eq_true, decide_eq_true_eq] at h
  exact h.1.1.2
theorem check_size {t : ByteArray} (h : (checkR t).2 = 0) : t.size ≤ 262144 := by
  rcases Nat.lt_or_ge 262144 t.size with h1 | h1
  · rw [check_long h1] at h; cases h
  · exact h1
theorem find_ne {L : List Fi} {s : ByteArray} (h : find L s = none) : ∀ f ∈ L, f.n ≠ s := by
  intro f hf e
  unfold find at h
  rw [List.find?_eq_none] at h
  exact h f hf (by simp [lk, Lit.sameKey, e])
theorem put_len_new {L : List Fi} {f : Fi} (h : find L f.n = none) : (putL L f).length = L.length + 1 := by
  unfold putL
  rw [without_none h, ins_len]
theorem put_len_over {L : List Fi} {f g : Fi} (hR : Rise L) (h : find L f.n = some g) : (putL L f).length = L.length := by
  rcases fp_spec L f.n 0 hR with ⟨g', j, h1, h2, _⟩ | ⟨h1, _⟩
  · have hn : nm g' = nm f := by
      have := List.find?_some (show L.find? (fun f' => (lk f'.n).sameKey (lk f.n)) = some g' from h1)
      simpa [lk, Lit.sameKey, nm] using this
    rw [put_there hR h2 hn]
    have := (List.getElem?_eq_some_iff.1 h2).1
    simp
    omega
  · rw [h1] at h; cases h
theorem writes_ok {L : List Fi} {s t : ByteArray} (h : writes L s t = true) : nameR s = true ∧ (checkR t).2 = 0 := by
  unfold writes at h
  simp only [Bool.and_eq_true, decide_eq_true_eq] at h
  exact ⟨h.1, h.2.1⟩
theorem Good.put {L : List Fi} (h : Good L) (n : Int) (s t : ByteArray) : Good (afterL L n s t) := by
  unfold afterL
  split
  · rename_i hw
    obtain ⟨h1, h2⟩ := writes_ok hw
    refine ⟨rise_put h.rise _, ?_, fun f hf => ?_⟩
    · cases hf : find L s with
      | none =>
        rw [put_len_new (f := ⟨s, t, n + 1⟩) hf]
        unfold writes at hw
        rw [hf] at hw
        simp at hw
        omega
      | some g => rw [put_len_over (f := ⟨s, t, n + 1⟩) h.rise hf]; exact h.len
    · rcases mem_put hf with rfl | hf
      · exact ⟨name_size h1, check_size h2⟩
      · exact h.ok f hf
  · exact h
theorem Good.without {L : List Fi} (h : Good L) (s : ByteArray) : Good (without L s) := by
  refine ⟨rise_without h.rise s, Nat.le_trans (without_len L s) h.len, fun f hf => h.ok f ?_⟩
  unfold Go.Proofs.YtlgklkokadbpeaaDoor.without at hf
  exact (List.mem_filter.1 hf).1
/-- Both stores, the program's at b, the reference's at b'; what was there ahead, below B0, is as it was. -/
structure Both (W0 W : World) (b b' : Nat) (L : List Fi) (n : Int) (L' : List Fi) (n' : Int) : Prop where
  st : St W (fun k => k < W0.heap.size) b L n
  rs : ∃ A c, RSt W W0.heap.size b' A c L' n'
  lt : b < b'
  tabs : Lib.Utf8Tabs 0 1 W
  lo : 1 < W0.heap.size
  kp : Kp (fun k => k < W0.heap.size) W0 W
theorem Both.below {W0 W : World} {b b' : Nat} {L L' : List Fi} {n n' : Int} (h : Both W0 W b b' L n L' n') : Go.RowKit.Below W0.heap.size W0 W := h.kp.below (Nat.le_refl _)
theorem Both.later {W0 W w' : World} {b b' : Nat} {L L' : List Fi} {n n' : Int} (h : Both W0 W b b' L n L' n') (hb : Go.RowKit.Below W.heap.size W w') : Both W0 w' b b' L n L' n' := by
  obtain ⟨A, c, hr⟩ := h.rs
  exact ⟨h.st.later hb, ⟨A, c, hr.later hb⟩, h.lt, tabs_below h.tabs hb, h.lo, h.kp.trans (kp_of hb)⟩
theorem Both.ge {W0 W : World} {b b' : Nat} {L L' : List Fi} {n n' : Int} (h : Both W0 W b b' L n L' n') : W0.heap.size ≤ b := by
  have := h.st.ge
  omega
/-- The program's Put. -/
theorem Both.put {W0 W : World} {b b' : Nat} {L L' : List Fi} {n n' : Int} (h : Both W0 W b b' L n L' n') (hg : Good L) (s t : ByteArray) (hs : s.size ≤ 1000000000000000) (hn : 0 ≤ n) (hm : n ≤ 1000000000000000) :
    Calls Tryd.prog 24 #[.pointer (some ⟨b, 0, none⟩), .string s, .string t] W fun e w' => e = .returned (.int .i64 (putE L s t)) ∧ Both W0 w' b b' (afterL L n s t) (afterN L n s t) L' n' := by
  refine (put_any h.st.wide h.tabs s t hs (fun k hk => hk.1) hg.len hn hm).mono ?_
  rintro e w' ⟨he, hst, hk⟩
  obtain ⟨A, c, hr⟩ := h.rs
  have hge := h.ge
  have hlo := h.lo
  have hsz := h.kp.size
  exact ⟨he, hst.narrow h.kp.size, ⟨A, c, hr.kp hk h.lt⟩, h.lt, tabs_kp h.tabs hk ⟨by omega, .inl (by omega)⟩ ⟨by omega, .inl (by omega)⟩, h.lo, h.kp.trans (hk.sub (fun k hk hl => ⟨hl, .inl hk⟩))⟩
/-- A call of the reference that changes its own store alone. -/
theorem Both.rset {W0 W w' : World} {b b' : Nat} {L L' L2 : List Fi} {n n' n2 : Int} (h : Both W0 W b b' L n L' n') (hk : Kp (fun k => k ≠ b') W w') (hr : ∃ A c, RSt w' W0.heap.size b' A c L2 n2) : Both W0 w' b b' L n L2 n2 := by
  obtain ⟨A, c, hr0⟩ := h.rs
  have hge := h.ge
  have hlo := h.lo
  have hlt := h.lt
  exact ⟨h.st.kp hk (by omega) hr0.c0, hr, h.lt, tabs_kp h.tabs hk (by omega) (by omega), h.lo, h.kp.trans (hk.sub (fun k hk hl => by omega))⟩
end Go.Proofs.YtlgklkokadbpeaaDoor
