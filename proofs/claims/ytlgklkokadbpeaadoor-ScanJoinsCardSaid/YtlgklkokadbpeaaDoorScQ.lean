import Derived.Test.YtlgklkokadbpeaaDoorScL
namespace Go.Proofs.YtlgklkokadbpeaaDoor
open Go.RowKit
theorem B_list (l : List UInt8) (k : Nat) : B ⟨l.toArray⟩ k = ((l[k]?).getD 0).toNat := by
  unfold B
  show (l.toArray[k]!).toNat = _
  rw [show l.toArray[k]! = (l[k]?).getD 0 from by simp; rfl]
theorem B_mid (a m : List UInt8) (i : Nat) : B ⟨(a ++ m).toArray⟩ (a.length + i) = ((m[i]?).getD 0).toNat := by
  rw [B_list, List.getElem?_append_right (by omega), Nat.add_sub_cancel_left]
theorem size_list (l : List UInt8) : (⟨l.toArray⟩ : ByteArray).size = l.length := by show l.toArray.size = _; simp
theorem quo_all : ∀ (rest pre said : List UInt8), quo ⟨(pre ++ (rest.flatMap escL ++ [34])).toArray⟩ 0 pre.length true said = ⟨3, ⟨(said ++ rest).toArray⟩, 0, 0, (pre ++ (rest.flatMap escL ++ [34])).length⟩ := by
  intro rest
  induction rest with
  | nil =>
    intro pre said
    have b0 := B_mid pre (([] : List UInt8).flatMap escL ++ [34]) 0
    rw [Nat.add_zero] at b0
    have b0' : B ⟨(pre ++ (([] : List UInt8).flatMap escL ++ [34])).toArray⟩ pre.length = 34 := by rw [b0]; rfl
    rw [quo_open (by rw [size_list]; simp), if_pos (by omega), if_pos b0', if_pos rfl]
    simp
  | cons b rest ih =>
    intro pre said
    have hq : pre ++ ((b :: rest).flatMap escL ++ [34]) = (pre ++ escL b) ++ (rest.flatMap escL ++ [34]) := by simp [List.flatMap_cons]
    have hs : ∀ c, said ++ c :: rest = (said ++ [c]) ++ rest := fun c => by simp
    have step := ih (pre ++ escL b) (said ++ [b])
    have hlen : (escL b).length + pre.length < (pre ++ ((b :: rest).flatMap escL ++ [34])).length := by simp [List.flatMap_cons]; omega
    rw [← hq] at step
    rw [hs b]
    have hfm : (b :: rest).flatMap escL ++ [34] = escL b ++ (rest.flatMap escL ++ [34]) := by simp [List.flatMap_cons]
    have hm : ∀ i, B ⟨(pre ++ ((b :: rest).flatMap escL ++ [34])).toArray⟩ (pre.length + i) = (((escL b ++ (rest.flatMap escL ++ [34]))[i]?).getD 0).toNat := fun i => by rw [← hfm]; exact B_mid pre _ i
    generalize hL : pre ++ ((b :: rest).flatMap escL ++ [34]) = L at *
    have hsz := size_list L
    have two : ∀ c : UInt8, c.toNat ≠ 10 → escL b = [92, c] → escB c.toNat = (b.toNat, true) → quo ⟨L.toArray⟩ 0 pre.length true said = quo ⟨L.toArray⟩ 0 (pre ++ escL b).length true (said ++ [b]) := by
      intro c hc he hesc
      rw [he] at hm hlen
      have m0 := hm 0
      have m1 := hm 1
      simp only [Nat.add_zero, List.cons_append, List.getElem?_cons_zero, Option.getD_some] at m0
      simp only [List.cons_append, List.getElem?_cons_succ, List.getElem?_cons_zero, Option.getD_some] at m1
      have m0' : B ⟨L.toArray⟩ pre.length = 92 := m0
      simp only [List.length_cons, List.length_nil] at hlen
      rw [quo_open (by omega), if_pos (by omega), if_neg (by omega), if_pos ⟨m0', by omega, by rw [m1]; exact hc⟩, m1, hesc, he]
      simp
    have one : b.toNat ≠ 10 → b.toNat ≠ 34 → b.toNat ≠ 92 → escL b = [b] → quo ⟨L.toArray⟩ 0 pre.length true said = quo ⟨L.toArray⟩ 0 (pre ++ escL b).length true (said ++ [b]) := by
      intro h1 h2 h3 he
      rw [he] at hm hlen
      have m0 := hm 0
      simp only [Nat.add_zero, List.cons_append, List.nil_append, List.getElem?_cons_zero, Option.getD_some] at m0
      simp only [List.length_cons, List.length_nil] at hlen
      have hbyte : (⟨L.toArray⟩ : ByteArray).data[pre.length]! = b := by
        have : ((⟨L.toArray⟩ : ByteArray).data[pre.length]!).toNat = b.toNat := m0
        exact UInt8.toNat.inj this
      rw [quo_open (by omega), if_pos (by omega), if_neg (by omega), if_neg (by omega), hbyte, he]
      simp
    have key : quo ⟨L.toArray⟩ 0 pre.length true said = quo ⟨L.toArray⟩ 0 (pre ++ escL b).length true (said ++ [b]) := by
      by_cases h10 : b = 10
      · exact two 110 (by decide) (by rw [h10]; rfl) (by rw [h10]; rfl)
      by_cases h9 : b = 9
      · exact two 116 (by decide) (by rw [h9]; rfl) (by rw [h9]; rfl)
      by_cases h92 : b = 92
      · exact two 92 (by decide) (by rw [h92]; rfl) (by rw [h92]; rfl)
      by_cases h34 : b = 34
      · exact two 34 (by decide) (by rw [h34]; rfl) (by rw [h34]; rfl)
      refine one ?_ ?_ ?_ (by unfold escL; rw [if_neg h10, if_neg h9, if_neg h92, if_neg h34])
      · exact fun h => h10 (UInt8.toNat.inj h)
      · exact fun h => h34 (UInt8.toNat.inj h)
      · exact fun h => h92 (UInt8.toNat.inj h)
    rw [key, step]
theorem quoteF_eq (s : ByteArray) : ∀ k, k ≤ s.size → quoteF s k = 34 :: (s.data.toList.take k).flatMap escL := by
  intro k
  induction k with
  | zero => intro _; simp [quoteF]
  | succ k ih =>
    intro h
    have hk : k < s.data.toList.length := by rw [Array.length_toList]; exact h
    rw [quoteF, ih (by omega), List.take_succ_eq_append_getElem hk, List.flatMap_append]
    have : s.data.toList[k] = s.data[k]! := by
      have := list_at s k h
      rw [List.getElem?_eq_getElem hk] at this
      exact Option.some.inj this
    rw [this]; simp
theorem quoteL_eq (s : ByteArray) : quoteL s = [34] ++ (s.data.toList.flatMap escL ++ [34]) := by
  unfold quoteL
  rw [quoteF_eq s s.size (Nat.le_refl _), List.take_of_length_le (by rw [Array.length_toList]; exact Nat.le_refl _)]
  simp
theorem quote_cut (s : ByteArray) : cut ⟨(quoteL s).toArray⟩ 0 [] = some [⟨3, s, 0, 0, (quoteL s).length⟩, ⟨6, ⟨#[]⟩, 0, (quoteL s).length, (quoteL s).length⟩] := by
  have hq := quo_all s.data.toList [34] []
  rw [← quoteL_eq] at hq
  have hb : B ⟨(quoteL s).toArray⟩ 0 = 34 := by rw [B_list, quoteL_eq]; rfl
  have hlen : 0 < (quoteL s).length := by rw [quoteL_eq]; simp
  have hone : oneT ⟨(quoteL s).toArray⟩ 0 = ⟨3, s, 0, 0, (quoteL s).length⟩ := by
    unfold oneT
    rw [hb, if_neg (by decide), if_neg (by decide), if_pos rfl]
    unfold quotedT
    rw [show 0 + 1 = ([34] : List UInt8).length from rfl, hq]
    simp
  have hsk : skipStep ⟨(quoteL s).toArray⟩ 0 = none := by
    unfold skipStep
    rw [hb, if_neg (by decide), if_neg (by omega), if_neg (by omega)]
  rw [cut_tok (by rw [size_list]; exact hlen) hsk (by simp), hone]
  rw [cut_stop (by rw [size_list]; exact Nat.le_refl _)]
  unfold endT
  rw [size_list]
  rfl
theorem quoteL_len (s : ByteArray) : (quoteL s).length ≤ 2 * s.size + 2 := by
  have := quoteF_len s s.size
  unfold quoteL
  simp
  omega
set_option maxRecDepth 100000 in
set_option maxHeartbeats 2000000 in
theorem quotes_walk (s : ByteArray) (w : World) (hM : HasMax w) (hE : HasErrs w) :
    Calls Tryd.prog 12 #[.string s] w (LawPost w) := by
  have KA := Lib.hid (awake_true w hM hE)
  by_cases hbig : 100000 < s.size
  · go_enter Tryd.func12, Tryd.ntmps12
    go_wp2_with fail
    refine KA.out.mono ?_
    rintro e w1 ⟨rfl, hb⟩
    have KA2 := Lib.hid (awake_true w1 (max_below hM hb) (errs_below hE hb))
    have HB := Lib.hid hb
    clear hb
    go_wp2_with fail
    refine KA2.out.mono ?_
    rintro e w2 ⟨rfl, hb2⟩
    have HB2 := Lib.hid hb2
    clear hb2
    go_wp2_with fail
    go_ret
    exact ⟨rfl, below_step HB.out HB2.out⟩
  · go_enter Tryd.func12, Tryd.ntmps12
    go_wp2_with fail
    refine KA.out.mono ?_
    rintro e w1 ⟨rfl, hb⟩
    have KQ := Lib.hid (quote_prog s w1 (by omega))
    have hM1 := Lib.hid (max_below hM hb)
    have hE1 := Lib.hid (errs_below hE hb)
    have HB := Lib.hid hb
    clear hb
    go_wp2_with fail
    refine KQ.out.mono ?_
    rintro e w2 ⟨rfl, hb⟩
    have hql := quoteL_len s
    have hsz := size_list (quoteL s)
    have hqs : (⟨(quoteL s).toArray⟩ : ByteArray).size ≤ 1000000000 := by omega
    have KP := Lib.hid (cut_prog ⟨(quoteL s).toArray⟩ w2 hqs (max_below hM1.out hb) (errs_below hE1.out hb))
    have HB2 := Lib.hid (below_step HB.out hb)
    have hcut := quote_cut s
    have hL := cutL_some hcut
    have hE' := cutE_some hcut
    clear hb hcut
    rw [← hsz] at hL
    generalize (⟨(quoteL s).toArray⟩ : ByteArray) = q at *
    have HL := Lib.hid hL
    have HE := Lib.hid hE'
    clear hL hE' hql hsz
    go_wp2_with fail
    refine KP.out.mono ?_
    rintro e w3 ⟨v, rfl, ho, hb⟩
    rw [HL.out] at ho
    rw [HE.out]
    obtain ⟨g, c, rfl⟩ : ∃ g c, v = .slice (some ⟨g, 0, none⟩) 2 c := by
      rcases ho.2 with ⟨_, h⟩ | ⟨g, c, _, h, _⟩
      · exact absurd h (by simp)
      · exact ⟨g, c, h⟩
    obtain ⟨f0, f1, f2, f3, f4⟩ := tok_cell (k := 0) (t := ⟨3, s, 0, 0, q.size⟩) ho rfl
    obtain ⟨e0, e1, e2, e3, e4⟩ := tok_cell (k := 1) (t := ⟨6, ⟨#[]⟩, 0, q.size, q.size⟩) ho rfl
    have HB3 := Lib.hid (below_step HB2.out hb)
    clear ho hb hM hE
    simp only [Nat.one_mul, Nat.zero_mul, Nat.reduceAdd] at f0 f1 f2 f3 f4 e0 e1 e2 e3 e4
    go_wp2_with fail
    go_ret
    exact ⟨rfl, HB3.out⟩
end Go.Proofs.YtlgklkokadbpeaaDoor
