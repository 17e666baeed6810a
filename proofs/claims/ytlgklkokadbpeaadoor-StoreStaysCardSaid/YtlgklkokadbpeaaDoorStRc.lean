import Derived.Test.YtlgklkokadbpeaaDoorStRb
namespace Go.Proofs.YtlgklkokadbpeaaDoor
open Go.RowKit Go.Maps Go.ChangeMaps Go.Sort
set_option maxRecDepth 100000 in
set_option maxHeartbeats 4000000 in
theorem rput_nil {W : World} {B b : Nat}  {c : Nat} {n : Int} (h : RSt W B b none c [] n) (s t : ByteArray) (hs : s.size ≤ 1000000000000000) (hnm : nameR s = true) (hc : (checkR t).2 = 0) (hn : 0 ≤ n) (hm : n ≤ 1000000000000000) :
    Calls Tryd.prog 25 #[.pointer (some ⟨b, 0, none⟩), .string s, .string t] W fun e w' => e = .returned (.int .i64 0) ∧ (∃ A' c', RSt w' B b A' c' [⟨s, t, n + 1⟩] (n + 1)) ∧ Kp (fun k => k ≠ b) W w' := by
  have KN := Lib.hid (fun W => name_ref s W hs)
  rw [hnm] at KN
  have KC := Lib.hid (fun W => check_ref t W)
  rw [hc] at KC
  generalize (checkR t).1 = cc1 at *
  have KF := Lib.hid (rfind_any h (by simp) s)
  rw [show fp [] s 0 = (0, false) from rfl] at KF
  have c0 := h.c0
  obtain rfl : c = 0 := by
    rcases h.own.2 with ⟨h1, _⟩ | ⟨g', cap, cur, h1, _⟩
    · injection h1
    · cases h1
  have c1 := h.c1
  have fz1 := h.fz 1
  have fz0 := h.fz 0
  have hbl : b < W.heap.size := World.block_lt_of_cell? W ⟨b, 0, none⟩ h.c0
  obtain ⟨HR2, HK2⟩ := rW_of h (n + 1) s t
  have HR2 := Lib.hid HR2
  have HK2 := Lib.hid HK2
  obtain ⟨i0, hi0, hz0, hz1, hz2⟩ := info_parts infoF
  have HX := Lib.hid (rW_cells W b (n + 1) s t)
  have HCN := Lib.hid (fun W => cell_three_new W ⟨s, t, n + 1⟩)
  have HS1 := Lib.hid (three_one ⟨s, t, n + 1⟩)
  have hsz : (rW W b (n + 1) s t).heap.size = W.heap.size + 1 := by simp [rW]
  have HCN2 := Lib.hid (cell_three_new (rW W b (n + 1) s t) ⟨s, t, n + 1⟩)
  rw [hsz] at HCN2
  clear hsz
  have HG := Lib.hid (show W.heap.size < (rW W b (n + 1) s t).heap.size by simp [rW])
  clear h hc
  go_enter Tryd.func25, Tryd.ntmps25
  have y0 := HX.out.1
  have y1 := HX.out.2.1
  have y2 := HX.out.2.2
  unfold rW at y0 y1 y2
  go_wp2_with (first | (go_at_call 23; refine (KN.out _).mono ?_; rintro e w0 ⟨rfl, rfl⟩) | (go_at_call 49; refine (KC.out _).mono ?_; rintro e w0 ⟨rfl, rfl⟩) | (go_at_call 50; refine KF.out.mono ?_; rintro e w0 ⟨rfl, rfl⟩) | (at_builtin; go_loud (refine wpList_append_own _ rfl _ _ 28 rfl (rW W b (n + 1) s t).heap.size 45 i0 (.agg #[.string ⟨#[]⟩, .string ⟨#[]⟩, .int .i64 0]) 3 40 Tryd.underlying28 hi0 hz0 hz1 hz2 rfl (by decide) _ _ _ rfl (World.ownsRow_nil _ _ _ _) ⟨W.heap.size + 1, 0, none⟩ 1 1 (cells3 ⟨s, t, n + 1⟩) rfl ?b0 ?b1 ?b2 ?b3 ?b4 ?b5 ?_)))
  case b0 => rfl
  case b1 => exact HCN2.out
  case b2 => exact HS1.out
  case b3 => exact Nat.le_trans (by omega : 0 + 1 ≤ 1001) (by unfold maxLen; decide)
  case b4 => omega
  case b5 => simp [rW]
  intro v4 w4 hown4 hgrow4 _
  obtain ⟨A4, c4, rfl⟩ := own_form3 hown4
  have hb4 : Go.RowKit.Below (rW W b (n + 1) s t).heap.size (rW W b (n + 1) s t) w4 := ((Go.RowKit.Below.refl _ _).alloc (Nat.le_refl _) _).grown hgrow4 (by simp [rW]) (fun k hk => by simp [Value.ownBlock] at hk)
  have HO4 := Lib.hid hown4
  have HB4 := Lib.hid hb4
  have z0 := cell_later hb4 HR2.out.c0
  have HR4 := Lib.hid (HR2.out.later hb4)
  have u0 := HR4.out.c0
  have uf := HR4.out.fz 0
  have HF := Lib.hid (HR2.out.set (m := 1) (L' := [⟨s, t, n + 1⟩]) hb4 rfl (by simpa [flat3] using hown4))
  clear hown4 hgrow4 hb4 y0 y1 y2
  go_wp2_with (at_builtin; go_loud (refine wpList_append_own_none rfl _ _ 28 rfl (rW W b (n + 1) s t).heap.size 45 i0 3 Tryd.underlying28 hi0 _ _ _ rfl HO4.out rfl ?_))
  go_wp2_with fail
  go_ret
  exact ⟨rfl, ⟨_, _, HF.out.1⟩, HK2.out.trans HF.out.2⟩
/-- The files behind a Put. -/
def afterL (L : List Fi) (n : Int) (s t : ByteArray) : List Fi := if writes L s t = true then putL L ⟨s, t, n + 1⟩ else L
def afterN (L : List Fi) (n : Int) (s t : ByteArray) : Int := if writes L s t = true then n + 1 else n
theorem find_nm {L : List Fi} {s : ByteArray} {f : Fi} (h : find L s = some f) : f.n = s := by
  have := List.find?_some (show L.find? (fun f' => (lk f'.n).sameKey (lk s)) = some f from h)
  exact toList_inj (by simpa [lk, Lit.sameKey] using this)
/-- The reference's Put, at any files of at most 64. -/
theorem rput_any {W : World} {B b : Nat} {A : Option Addr} {c : Nat} {L : List Fi} {n : Int} (h : RSt W B b A c L n) (hR : Rise L) (s t : ByteArray) (hs : s.size ≤ 1000000000000000) (hL : L.length ≤ 64) (hn : 0 ≤ n) (hm : n ≤ 1000000000000000) :
    Calls Tryd.prog 25 #[.pointer (some ⟨b, 0, none⟩), .string s, .string t] W fun e w' => e = .returned (.int .i64 (putE L s t)) ∧ (∃ A' c', RSt w' B b A' c' (afterL L n s t) (afterN L n s t)) ∧ Kp (fun k => k ≠ b) W w' := by
  have same : ∀ e w', e = Ending.returned (.int .i64 (putE L s t)) ∧ W = w' → writes L s t = false → e = .returned (.int .i64 (putE L s t)) ∧ (∃ A' c', RSt w' B b A' c' (afterL L n s t) (afterN L n s t)) ∧ Kp (fun k => k ≠ b) W w' := by
    rintro e w' ⟨he, rfl⟩ hw
    unfold afterL afterN
    rw [hw]
    exact ⟨he, ⟨A, c, h⟩, Kp.refl _ _⟩
  cases hnm : nameR s with
  | false =>
    refine (rput_name h s t hs hnm).mono fun e w' he => same e w' ?_ (by unfold writes; rw [hnm]; rfl)
    rw [show putE L s t = 4 by unfold putE; rw [hnm]; rfl]
    exact he
  | true =>
    by_cases hc : (checkR t).2 = 0
    case neg =>
      refine (rput_text h s t hs hnm hc).mono fun e w' he => same e w' ?_ (by unfold writes; rw [decide_eq_false hc]; simp)
      rw [show putE L s t = (checkR t).2 by unfold putE; rw [if_pos hnm, if_neg hc]]
      exact he
    rcases fp_spec L s 0 hR with ⟨f, j, h1, h2, h3⟩ | ⟨h1, j, h2, h3, h4⟩
    · rw [Nat.zero_add] at h3
      have hE : putE L s t = 0 := by unfold putE; rw [if_pos hnm, if_pos hc, h1]; simp
      by_cases ht : f.t = t
      · refine (rput_same h s t hs hnm hc h2 ht h3 (by omega)).mono fun e w' he => same e w' (by rw [hE]; exact he) ?_
        unfold writes
        rw [h1]
        simp only [ht, (MapKept.bytes_beq t t).2 rfl, Bool.not_true, Bool.and_false]
      · have hbt : (f.t == t) = false := Bool.eq_false_iff.2 (fun e => ht ((MapKept.bytes_beq _ _).1 e))
        have hw : writes L s t = true := by unfold writes; rw [h1, hnm, decide_eq_true hc]; simp [hbt]
        obtain ⟨g, rfl, _⟩ := h.at h2
        refine (rput_over h s t hs hnm hc h2 ht h3 (by omega) hn hm).mono ?_
        rintro e w' ⟨he, hr, hk⟩
        unfold afterL afterN
        rw [hw, hE, if_pos rfl, if_pos rfl, put_there hR h2 (show nm f = nm ⟨s, t, n + 1⟩ by unfold nm; rw [find_nm h1])]
        exact ⟨he, hr, hk⟩
    · rw [Nat.zero_add] at h3
      by_cases hl : 64 ≤ L.length
      · refine (rput_full h s t hs hnm hc h3 (by omega) hl).mono fun e w' he => same e w' ?_ (by unfold writes; rw [h1]; simp; omega)
        rw [show putE L s t = 10 by unfold putE; rw [if_pos hnm, if_pos hc, h1]; simp [hl]]
        exact he
      · have hE : putE L s t = 0 := by unfold putE; rw [if_pos hnm, if_pos hc, if_neg (fun e => hl e.2)]
        have hw : writes L s t = true := by unfold writes; rw [h1, hnm, decide_eq_true hc]; simp; omega
        have hp : putL L ⟨s, t, n + 1⟩ = L.take j ++ ⟨s, t, n + 1⟩ :: L.drop j := by
          unfold putL
          rw [show without L (Fi.mk s t (n + 1)).n = L from without_none h1]
          exact h4 _ rfl
        unfold afterL afterN
        rw [hw, hE, if_pos rfl, if_pos rfl, hp]
        cases A with
        | none =>
          obtain rfl : L = [] := by
            rcases h.own.2 with ⟨_, h5⟩ | ⟨g', cap, cur, h5, _⟩
            · exact List.eq_nil_of_length_eq_zero h5
            · cases h5
          obtain rfl : j = 0 := by simpa using h2
          exact rput_nil h s t hs hnm hc hn hm
        | some ad =>
          obtain ⟨g, rfl⟩ : ∃ g, ad = ⟨g, 0, none⟩ := by
            rcases h.own.2 with ⟨h5, _⟩ | ⟨g', cap, cur, h5, _⟩
            · cases h5
            · exact ⟨g', by injection h5 with h5; injection h5⟩
          exact rput_new h s t hs hnm hc h2 h3 (by omega) (by omega) hn hm
end Go.Proofs.YtlgklkokadbpeaaDoor
