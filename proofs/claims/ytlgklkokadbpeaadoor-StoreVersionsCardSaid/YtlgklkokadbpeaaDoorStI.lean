import Derived.Test.YtlgklkokadbpeaaDoorStH
namespace Go.Proofs.YtlgklkokadbpeaaDoor
open Go.RowKit Go.Maps Go.ChangeMaps
/-- Put, at any files of at most 64. -/
theorem put_any {W : World} {B : Nat → Prop} {b : Nat} {L : List Fi} {n : Int} (h : St W B b L n) (hT : Lib.Utf8Tabs 0 1 W) (s t : ByteArray) (hs : s.size ≤ 1000000000000000) (hB : ∀ k, B k → k < W.heap.size) (hL : L.length ≤ 64) (hn : 0 ≤ n) (hm : n ≤ 1000000000000000) :
    Calls Tryd.prog 24 #[.pointer (some ⟨b, 0, none⟩), .string s, .string t] W fun e w' => e = .returned (.int .i64 (putE L s t)) ∧ St w' B b (if writes L s t = true then putL L ⟨s, t, n + 1⟩ else L) (if writes L s t = true then n + 1 else n) ∧ Kp B W w' := by
  cases hnm : nameR s with
  | false =>
    rw [show putE L s t = 4 by unfold putE; rw [hnm]; rfl, show writes L s t = false by unfold writes; rw [hnm]; rfl]
    exact put_name h hT s t hs hnm
  | true =>
    by_cases hc : (checkR t).2 = 0
    case neg =>
      rw [show putE L s t = (checkR t).2 by unfold putE; rw [if_pos hnm, if_neg hc], show writes L s t = false by unfold writes; rw [decide_eq_false hc]; simp]
      exact put_text h hT s t hs hnm hc
    cases hf : find L s with
    | some f =>
      have hE : putE L s t = 0 := by unfold putE; rw [if_pos hnm, if_pos hc, hf]; simp
      by_cases ht : f.t = t
      · rw [hE, show writes L s t = false by unfold writes; rw [hf]; simp only [ht, (MapKept.bytes_beq t t).2 rfl, Bool.not_true, Bool.and_false]]
        exact put_same h hT s t hs hnm hc hf ht
      · have hbt : (f.t == t) = false := Bool.eq_false_iff.2 (fun e => ht ((MapKept.bytes_beq _ _).1 e))
        rw [hE, show writes L s t = true by unfold writes; rw [hf, hnm, decide_eq_true hc]; simp [hbt]]
        obtain ⟨R, h1, h2, h3, h4⟩ := h.there (by rintro rfl; cases hf)
        exact put_text2 (R := R) ⟨h.c0, h1, h2, h.fz, h.ge, h3, h4⟩ hT s t hs hnm hc hf ht (by omega) hn hm
    | none =>
      by_cases hl : 64 ≤ L.length
      · rw [show putE L s t = 10 by unfold putE; rw [if_pos hnm, if_pos hc, hf]; simp [hl], show writes L s t = false by unfold writes; rw [hf]; simp; omega]
        exact put_full h hT s t hs hnm hc hf hl
      · rw [show putE L s t = 0 by unfold putE; rw [if_pos hnm, if_pos hc, if_neg (fun e => hl e.2)], show writes L s t = true by unfold writes; rw [hf, hnm, decide_eq_true hc]; simp; omega]
        rcases h.c1 with ⟨h1, rfl⟩ | ⟨R, h1, h2, h3, h4⟩
        · exact put_first h hT s t hs hB h1 hnm hc hn hm
        · exact put_new (R := R) ⟨h.c0, h1, h2, h.fz, h.ge, h3, h4⟩ hT s t hs hnm hc hf (by omega) hn hm
end Go.Proofs.YtlgklkokadbpeaaDoor
