import Derived.Test.YtlgklkokadbpeaaDoorSc7
import Derived.Test.YtlgklkokadbpeaaDoorShelfP
import Derived.Lib.AtoiErrMem
namespace Go.Proofs.YtlgklkokadbpeaaDoor
open Go.RowKit

/-- What digits spell, behind what the ones ahead spell; none: one is no digit. -/
def digs : Nat → List UInt8 → Option Nat
  | acc, [] => some acc
  | acc, c :: r => if digitB c.toNat = true then digs (acc * 10 + (c.toNat - 48)) r else none
theorem digs_ge : ∀ (l : List UInt8) (acc v : Nat), digs acc l = some v → acc ≤ v := by
  intro l
  induction l with
  | nil => intro acc v h; simp [digs] at h; omega
  | cons c r ih =>
    intro acc v h
    simp only [digs] at h
    split at h
    · have := ih _ _ h; omega
    · cases h
def top64 : Nat := 18446744073709551615
theorem parse_ok : ∀ (l : List UInt8) (acc v : Nat), digs acc l = some v → v ≤ top64 → Lib.parseUintM top64 acc l = .ok v := by
  intro l
  induction l with
  | nil => intro acc v h _; simp [digs] at h; subst h; rfl
  | cons c r ih =>
    intro acc v h hv
    simp only [digs] at h
    split at h
    · rename_i hd
      have hge := digs_ge _ _ _ h
      have hd2 : 48 ≤ c.toNat ∧ c.toNat ≤ 57 := by simpa [digitB] using hd
      rw [Lib.parseUintM, if_pos hd2, if_neg (by unfold top64 at hv; omega), if_neg (by omega)]
      exact ih _ _ h hv
    · cases h
theorem parse_of : ∀ (l : List UInt8) (M acc u : Nat), Lib.parseUintM M acc l = .ok u → digs acc l = some u := by
  intro l
  induction l with
  | nil => intro M acc u h; simp [Lib.parseUintM] at h; simp [digs, h]
  | cons c r ih =>
    intro M acc u h
    rw [Lib.parseUintM] at h
    split at h
    · rename_i hd
      split at h
      · cases h
      · split at h
        · cases h
        · rw [digs, if_pos (by simpa [digitB] using hd)]; exact ih _ _ _ h
    · cases h
def big63 : Nat := 9223372036854775807
/-- The number that digits spell, if it is one. -/
def numV (l : List UInt8) : Option Nat := (digs 0 l).filter fun v => decide (v ≤ big63)
theorem top_eq : (2 : Nat) ^ 64 - 1 = top64 := by decide
theorem big_eq : (2 : Nat) ^ (64 - 1) = big63 + 1 := by decide
theorem parse_int (c : UInt8) (r : List UInt8) (hc : 48 ≤ c.toNat) :
    (∃ v, numV (c :: r) = some v ∧ Lib.parseIntB 64 (c :: r) = .ok v) ∨ (numV (c :: r) = none ∧ (Lib.parseIntB 64 (c :: r) = Lib.NumEnd.syntax ∨ Lib.parseIntB 64 (c :: r) = .range)) := by
  have h1 : ¬ c.toNat = 43 := by omega
  have h2 : ¬ c.toNat = 45 := by omega
  have hp : Lib.parseIntB 64 (c :: r) = (match Lib.parseUintM top64 0 (c :: r) with
      | Lib.NumEnd.syntax => Lib.NumEnd.syntax | .range => .range | .ok u => if 2 ^ 63 ≤ u then .range else .ok (u : Int)) := by
    unfold Lib.parseIntB Lib.parseUintB
    simp only [h1, h2, or_self, if_false, top_eq]
    rw [if_neg (by simp)]
    cases Lib.parseUintM top64 0 (c :: r) <;> simp
  rw [hp]
  unfold numV
  rcases hu : Lib.parseUintM top64 0 (c :: r) with u | _ | _
  · have hd := parse_of _ _ _ _ hu
    rw [hd]
    have e : (2 : Nat) ^ 63 = big63 + 1 := by decide
    by_cases hv : u ≤ big63
    · left
      exact ⟨u, by simp [Option.filter, hv], by simp only; rw [e, if_neg (by omega)]⟩
    · right
      exact ⟨by simp [Option.filter, hv], .inr (by simp only; rw [e, if_pos (by omega)])⟩
  · right
    refine ⟨?_, .inl rfl⟩
    cases hd : digs 0 (c :: r) with
    | none => rfl
    | some v =>
      by_cases hv : v ≤ top64
      · rw [parse_ok _ _ _ hd hv] at hu; cases hu
      · have : ¬ v ≤ big63 := by unfold top64 at hv; unfold big63; omega
        simp [Option.filter, this]
  · right
    refine ⟨?_, .inr rfl⟩
    cases hd : digs 0 (c :: r) with
    | none => rfl
    | some v =>
      by_cases hv : v ≤ top64
      · rw [parse_ok _ _ _ hd hv] at hu; cases hu
      · have : ¬ v ≤ big63 := by unfold top64 at hv; unfold big63; omega
        simp [Option.filter, this]
def numT (s : ByteArray) (i : Nat) : Tok :=
  if i + 1 < wordN s i ∧ B s i = 48 then pieceT s 7 i (wordN s i)
  else match numV (s.extract i (wordN s i)).data.toList with
    | some v => ⟨2, s.extract i (wordN s i), v, i, wordN s i⟩
    | none => pieceT s 7 i (wordN s i)
/-- That the library's two errors are there. -/
def HasErrs (w : World) : Prop := (∃ t p, w.cell? ⟨3, 0, none⟩ = some (.iface t p)) ∧ (∃ t p, w.cell? ⟨4, 0, none⟩ = some (.iface t p))
theorem errs_below {w w' : World} (h : HasErrs w) (hb : Below w.heap.size w w') : HasErrs w' := by
  obtain ⟨⟨t, p, h1⟩, ⟨t', p', h2⟩⟩ := h
  exact ⟨⟨t, p, cell_later hb h1⟩, ⟨t', p', cell_later hb h2⟩⟩
theorem max_below {w w' : World} (h : HasMax w) (hb : Below w.heap.size w w') : HasMax w' := by
  obtain ⟨m, h1⟩ := h
  exact ⟨m, cell_later hb h1⟩
theorem parse_good (s : ByteArray) (v : Nat) (w : World) (hs : s.size ≤ 1000000000) (h : Lib.parseIntB 64 s.data.toList = .ok (v : Int)) :
    Calls Tryd.prog 88 #[.string s, .int .i64 10, .int .i64 64] w fun e w' => e = .returned (.tuple #[.int .i64 v, .nilIface]) ∧ Below w.heap.size w w' :=
  (Tryd.strconv_ParseInt_10_at64_ok s (by omega) v h w).mono fun e w' ⟨h1, h2⟩ => ⟨h1, by
    rcases h2 with rfl | ⟨t, rfl⟩
    · exact Below.refl _ _
    · exact Lib.bytesWorld_below _ _ _⟩
theorem parse_wrong (s : ByteArray) (w : World) (hs : s.size ≤ 1000000000) (hE : HasErrs w) (h : Lib.parseIntB 64 s.data.toList = Lib.NumEnd.syntax ∨ Lib.parseIntB 64 s.data.toList = .range) :
    Calls Tryd.prog 88 #[.string s, .int .i64 10, .int .i64 64] w fun e w' => ∃ x t N, e = .returned (.tuple #[.int .i64 x, .iface t (.pointer (some ⟨N, 0, none⟩))]) ∧ Below w.heap.size w w' := by
  obtain ⟨⟨t, p, h1⟩, ⟨t', p', h2⟩⟩ := hE
  rcases h with h | h
  · exact (Tryd.strconv_ParseInt_10_at64_syntax s (by omega) h _ w h1 (.inr ⟨_, _, rfl⟩)).mono fun e w' ⟨N, a, b, c, d⟩ => ⟨_, _, N, a, d⟩
  · exact (Tryd.strconv_ParseInt_10_at64_range s (by omega) h _ w h2 (.inr ⟨_, _, rfl⟩)).mono fun e w' ⟨N, a, b, c, d⟩ => ⟨_, _, N, a, d⟩
theorem word_step {s : ByteArray} {i : Nat} (hi : i < s.size) (h : alnumB (B s i) = true) : i + 1 ≤ wordN s i := by
  rw [word_go hi h]; exact (word_le s (i + 1) (by omega)).1

set_option maxRecDepth 100000 in
set_option maxHeartbeats 6000000 in
theorem number_prog (s : ByteArray) (i : Nat) (w : World) (hs : s.size ≤ 1000000000) (hi : i < s.size) (hd : digitB (B s i) = true) (hE : HasErrs w) :
    Calls Tryd.prog 73 #[.string s, .int .i64 i] w fun e w' => e = .returned (numT s i).val ∧ Below w.heap.size w w' := by
  have hw := word_le s i (by omega)
  have hst := word_step hi (show alnumB (B s i) = true by unfold alnumB; rw [hd]; simp)
  have KW := Lib.hid (word_prog s i (w.alloc zeroTok) (by omega) (by omega))
  have hb0 : 48 ≤ B s i := by have : 48 ≤ B s i ∧ B s i ≤ 57 := by simpa [digitB] using hd
                              omega
  have hE' := Lib.hid (errs_below hE ((Below.refl _ _).alloc (Nat.le_refl _) zeroTok))
  clear hE hd
  have hz : (s.extract i (wordN s i)).size = wordN s i - i := by rw [ByteArray.size_extract]; omega
  have hzs : (s.extract i (wordN s i)).size ≤ 1000000000 := by omega
  have hfirst : (s.extract i (wordN s i)).data.toList = s.data[i]! :: ((s.data.toList.drop (i + 1)).take (wordN s i - (i + 1))) := by
    rw [Lib.extract_data, drop_at s i hi]
    obtain ⟨k, hk⟩ : ∃ k, wordN s i - i = k + 1 := ⟨wordN s i - i - 1, by omega⟩
    rw [hk, List.take_succ_cons]
    congr 2; omega
  have hpi := parse_int (s.data[i]!) ((s.data.toList.drop (i + 1)).take (wordN s i - (i + 1))) hb0
  rw [← hfirst] at hpi
  have hidx : ∀ h : 0 < (s.extract i (wordN s i)).size, ((s.extract i (wordN s i))[0]).toNat = B s i := fun h => by
    rw [B_at _ 0 h]
    unfold B
    rw [ByteArray.data_extract, getElem!_pos _ 0 (by simp; have hs : s.size = s.data.size := rfl; omega), getElem!_pos s.data i hi]
    simp
  have D0 : numT s i = numT s i := rfl
  rw [show numT s i = (if i + 1 < wordN s i ∧ B s i = 48 then pieceT s 7 i (wordN s i) else match numV (s.extract i (wordN s i)).data.toList with | some v => ⟨2, s.extract i (wordN s i), v, i, wordN s i⟩ | none => pieceT s 7 i (wordN s i)) from rfl]
  clear D0 hfirst
  generalize hj : wordN s i = j at *
  clear hj
  have HZ := Lib.hid hz
  clear hz
  generalize hc : B s i = c at *
  clear hc
  rcases hpi with ⟨v, hv, hp⟩ | ⟨hv, hp⟩
  · have KP := Lib.hid (fun W => parse_good (s.extract i j) v W hzs hp)
    by_cases hlead : i + 1 < j ∧ c = 48
    · rw [if_pos hlead]
      have q1 : 1 < j - i := by omega
      have q2 : 1 < (s.extract i j).size := by rw [HZ.out]; omega
      have hc48 := hlead.2
      subst hc48
      clear hlead hv hp hzs
      go_enter Tryd.func73, Tryd.ntmps73
      go_wp2_with fail
      refine KW.out.mono ?_
      rintro e w1 ⟨rfl, rfl⟩
      go_wp2_with fail
      refine (KP.out _).mono ?_
      rintro e w1 ⟨rfl, hb1⟩
      have HB1 := Lib.hid hb1
      clear hb1
      go_wp2_with fail
      refine (piece_prog s 7 i j w1 hw.1 hw.2).mono ?_
      rintro e w2 ⟨rfl, hb2⟩
      have hb := below_step HB1.out hb2
      obtain ⟨c0, c1, c2, c3, c4, cf, cz⟩ := zero_cells hb
      simp only [Tok.val, Tok.cells, pieceT]
      go_wp2_with fail
      refine bodyPost_ret (v := (pieceT s 7 i j).val) (by simp [results, Tryd.results73, go_sem, Tok.val, Tok.cells, pieceT, c0, c1, c2, c3, c4]) rfl ?_; exact ⟨rfl, below_five (below_box hb) _ _ _ _ _⟩
    · rw [if_neg hlead, hv]
      have hcase : ¬ 1 < j - i ∨ (1 < j - i ∧ ((c : Int) == 48) = false) := by
        by_cases h : 1 < j - i
        · exact .inr ⟨h, by simp; omega⟩
        · exact .inl h
      have q2 : 0 < (s.extract i j).size := by rw [HZ.out]; omega
      clear hlead hv hp hzs hb0
      rcases hcase with q1 | ⟨q1, q3⟩
      all_goals
        go_enter Tryd.func73, Tryd.ntmps73
        go_wp2_with fail
        refine KW.out.mono ?_
        rintro e w1 ⟨rfl, rfl⟩
        go_wp2_with fail
        refine (KP.out _).mono ?_
        rintro e w1 ⟨rfl, hb1⟩
        have HB1 := Lib.hid hb1
        clear hb1
        go_wp2_with fail
        refine (piece_prog s 2 i j w1 hw.1 hw.2).mono ?_
        rintro e w2 ⟨rfl, hb2⟩
        have hb := below_step HB1.out hb2
        obtain ⟨c0, c1, c2, c3, c4, cf, cz⟩ := zero_cells hb
        have HB := Lib.hid hb
        have cz2 : w.heap.size < w2.heap.size := by omega
        have cz3 : ¬ (w.heap.size = w2.heap.size) := by omega
        clear hb hb2 HB1
        simp only [Tok.val, Tok.cells, pieceT]
        go_wp2_with fail
        obtain ⟨W5, hW5⟩ : ∃ W5, W5 = (((((w2.setCell ⟨w.heap.size, 0, none⟩ (.int .i64 2)).setCell ⟨w.heap.size, 1, none⟩ (.string (s.extract i j))).setCell ⟨w.heap.size, 2, none⟩ (.int .i64 v)).setCell ⟨w.heap.size, 3, none⟩ (.int .i64 i)).setCell ⟨w.heap.size, 4, none⟩ (.int .i64 j)) := ⟨_, rfl⟩
        obtain ⟨r0, r1, r2, r3, r4, rz⟩ := five_cells c0 c1 c2 c3 c4 _ _ _ _ _ W5 hW5
        have hB5 : Below w.heap.size w W5 := by rw [hW5]; exact below_five (below_box HB.out) _ _ _ _ _
        rw [← hW5]
        have p0 : ∀ (k : Nat) (o : Obj), (W5.alloc o).cell? ⟨w.heap.size, k, none⟩ = W5.cell? ⟨w.heap.size, k, none⟩ := fun k o => World.cell?_alloc_past _ _ _ (by show w.heap.size < _; omega)
        exact bodyPost_ret (v := Tok.val ⟨2, s.extract i j, v, i, j⟩) (res_box Tryd.results73 rfl ((p0 0 _).trans r0) ((p0 1 _).trans r1) ((p0 2 _).trans r2) ((p0 3 _).trans r3) ((p0 4 _).trans r4)) rfl ⟨rfl, hB5.alloc hB5.size _⟩
  · rw [hv]
    have hn : (if i + 1 < j ∧ c = 48 then pieceT s 7 i j else match (none : Option Nat) with | some v => ⟨2, s.extract i j, v, i, j⟩ | none => pieceT s 7 i j) = pieceT s 7 i j := by split <;> rfl
    rw [hn]
    have KP := Lib.hid (fun W hE => parse_wrong (s.extract i j) W hzs hE hp)
    clear hv hp hzs hn hb0
    go_enter Tryd.func73, Tryd.ntmps73
    go_wp2_with fail
    refine KW.out.mono ?_
    rintro e w1 ⟨rfl, rfl⟩
    go_wp2_with fail
    refine (KP.out _ hE'.out).mono ?_
    rintro e w1 ⟨x, t, N, rfl, hb1⟩
    have HB1 := Lib.hid hb1
    clear hb1
    go_wp2_with fail
    refine (piece_prog s 7 i j w1 hw.1 hw.2).mono ?_
    rintro e w2 ⟨rfl, hb2⟩
    have hb := below_step HB1.out hb2
    obtain ⟨c0, c1, c2, c3, c4, cf, cz⟩ := zero_cells hb
    simp only [Tok.val, Tok.cells, pieceT]
    go_wp2_with fail
    refine bodyPost_ret (v := (pieceT s 7 i j).val) (by simp [results, Tryd.results73, go_sem, Tok.val, Tok.cells, pieceT, c0, c1, c2, c3, c4]) rfl ?_; exact ⟨rfl, below_five (below_box hb) _ _ _ _ _⟩
end Go.Proofs.YtlgklkokadbpeaaDoor
