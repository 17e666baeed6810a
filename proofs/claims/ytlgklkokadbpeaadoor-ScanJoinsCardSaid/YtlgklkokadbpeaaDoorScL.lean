import Derived.Test.YtlgklkokadbpeaaDoorScR6
namespace Go.Proofs.YtlgklkokadbpeaaDoor
open Go.RowKit
def wakeS : ByteArray := ⟨#[97, 61, 62, 49]⟩
def wakeL : List Tok := [⟨1, ⟨#[97]⟩, 0, 0, 1⟩, ⟨4, ⟨#[61, 62]⟩, 0, 1, 3⟩, ⟨2, ⟨#[49]⟩, 1, 3, 4⟩, ⟨6, ⟨#[]⟩, 0, 4, 4⟩]
theorem wake_cut : cut wakeS 0 [] = some wakeL := by kernel_rfl
theorem wake_let : resL (⟨#[108, 101, 116]⟩ : ByteArray).toList = true := by rw [toList_eq]; decide
theorem wake_x : nameB ⟨#[36, 120]⟩ = true := by unfold nameB; rw [toList_eq]; kernel_rfl
set_option maxHeartbeats 1000000 in
theorem awake_true (w : World) (hM : HasMax w) (hE : HasErrs w) :
    Calls Tryd.prog 29 #[] w fun e w' => e = .returned (.bool true) ∧ Below w.heap.size w w' := by
  have K := Lib.hid (cut_prog wakeS w (by decide) hM hE)
  have KR := Lib.hid (fun W => reserved_prog ⟨#[108, 101, 116]⟩ W)
  rw [wake_let] at KR
  have KN := Lib.hid (fun W => isname_prog ⟨#[36, 120]⟩ W (by decide))
  rw [wake_x] at KN
  clear hM hE
  go_enter Tryd.func29, Tryd.ntmps29
  go_wp2_with fail
  refine K.out.mono ?_
  rintro e w1 ⟨v, rfl, ho, hb⟩
  rw [cutL_some wake_cut] at ho
  rw [cutE_some wake_cut]
  obtain ⟨g, c, rfl⟩ : ∃ g c, v = .slice (some ⟨g, 0, none⟩) 4 c := by
    rcases ho.2 with ⟨_, h⟩ | ⟨g, c, _, h, _⟩
    · exact absurd h (by decide)
    · exact ⟨g, c, h⟩
  obtain ⟨f0, f1, f2, f3, f4⟩ := tok_cell (k := 1) (t := ⟨4, ⟨#[61, 62]⟩, 0, 1, 3⟩) ho rfl
  have HB := Lib.hid hb
  clear ho hb K
  simp only [Nat.one_mul, Nat.reduceAdd] at f0 f1 f2 f3 f4
  go_wp2_with (first | (go_at_call 35; refine (KR.out _).mono ?_; rintro e w1 ⟨rfl, rfl⟩) | (go_at_call 33; refine (KN.out _).mono ?_; rintro e w2 ⟨rfl, hb2⟩))
  go_ret
  exact ⟨rfl, below_step HB.out hb2⟩
/-- What a law's walk leaves. -/
def LawPost (w : World) (e : Ending) (w' : World) : Prop := e = .returned (.bool true) ∧ Below w.heap.size w w'
theorem cutL_len (s : ByteArray) : (cutL s).length ≤ 20001 := by
  unfold cutL cut
  cases h : cutF s (s.size - 0) 0 [] with
  | none => simp
  | some m => exact cut_len s _ _ _ _ h (by simp)
set_option maxHeartbeats 1000000 in
theorem cuts_walk (s : ByteArray) (w : World) (hM : HasMax w) (hE : HasErrs w) :
    Calls Tryd.prog 9 #[.string s] w (LawPost w) := by
  have KA := Lib.hid (awake_true w hM hE)
  by_cases hbig : 400000 < s.size
  · go_enter Tryd.func9, Tryd.ntmps9
    go_wp2_with fail
    refine KA.out.mono ?_
    rintro e w1 ⟨rfl, hb⟩
    have KA2 := Lib.hid (awake_true w1 (max_below hM hb) (errs_below hE hb))
    have HB := Lib.hid hb
    clear hb
    go_wp2_with fail
    refine KA2.out.mono ?_
    rintro e w2 ⟨rfl, hb2⟩
    have HB2 := Lib.hid hb2
    clear hb2
    go_wp2_with fail
    go_ret
    exact ⟨rfl, below_step HB.out HB2.out⟩
  · go_enter Tryd.func9, Tryd.ntmps9
    go_wp2_with fail
    refine KA.out.mono ?_
    rintro e w1 ⟨rfl, hb⟩
    have KP := Lib.hid (cut_prog s w1 (by omega) (max_below hM hb) (errs_below hE hb))
    have HB := Lib.hid hb
    clear hb
    go_wp2_with fail
    refine KP.out.mono ?_
    rintro e w2 ⟨v, rfl, ho, hb⟩
    have KR := Lib.hid (cut_ref s w2 (by omega))
    have HB2 := Lib.hid (below_step HB.out hb)
    have HO := Lib.hid ho
    clear hb ho
    go_wp2_with fail
    refine KR.out.mono ?_
    rintro e w3 ⟨v2, rfl, ho2, hb⟩
    have KS := Lib.hid (same_true (cutL s) v v2 w3 _ _ (by have := cutL_len s; omega) (own_below HO.out hb) ho2)
    have HB3 := Lib.hid (below_step HB2.out hb)
    clear hb ho2 hM hE
    go_wp2_with fail
    refine KS.out.mono ?_
    rintro e w4 ⟨rfl, n, rfl⟩
    go_wp2_with fail
    go_ret
    exact ⟨rfl, below_drewN HB3.out n⟩
end Go.Proofs.YtlgklkokadbpeaaDoor
