import Derived.Test.YtlgklkokadbpeaaDoorSc11
import Derived.Test.YtlgklkokadbpeaaDoorSc8
namespace Go.Proofs.YtlgklkokadbpeaaDoor
open Go.RowKit

/-- The ref's two boxes: the answer's (not told yet), and the token's. -/
structure NB (w wr : World) (t : Tok) : Prop where
  a0 : wr.cell? ⟨w.heap.size + 1, 0, none⟩ = some (.int .i64 t.kind)
  a1 : wr.cell? ⟨w.heap.size + 1, 1, none⟩ = some (.string t.text)
  a2 : wr.cell? ⟨w.heap.size + 1, 2, none⟩ = some (.int .i64 t.n)
  a3 : wr.cell? ⟨w.heap.size + 1, 3, none⟩ = some (.int .i64 t.at_)
  a4 : wr.cell? ⟨w.heap.size + 1, 4, none⟩ = some (.int .i64 t.end_)
  z0 : wr.cell? ⟨w.heap.size, 0, none⟩ = some (.int .i64 0)
  z1 : wr.cell? ⟨w.heap.size, 1, none⟩ = some (.string ⟨#[]⟩)
  z2 : wr.cell? ⟨w.heap.size, 2, none⟩ = some (.int .i64 0)
  z3 : wr.cell? ⟨w.heap.size, 3, none⟩ = some (.int .i64 0)
  z4 : wr.cell? ⟨w.heap.size, 4, none⟩ = some (.int .i64 0)
  fa : ∀ k, wr.frozen? ⟨w.heap.size + 1, k, none⟩ = false
  fz : ∀ k, wr.frozen? ⟨w.heap.size, k, none⟩ = false
  sz : wr.heap.size = w.heap.size + 2
  bl : Below w.heap.size w wr
theorem NB.start (w : World) (t : Tok) : NB w ((w.alloc zeroTok).alloc (.cells t.cells.toArray 63)) t := by
  have hz : (w.alloc zeroTok).heap.size = w.heap.size + 1 := by simp
  have hn : ∀ k, ((w.alloc zeroTok).alloc (.cells t.cells.toArray 63)).cell? ⟨w.heap.size + 1, k, none⟩ = t.cells.toArray[k]? := fun k => by rw [World.cell?_alloc_at _ _ _ _ hz.symm]
  have ho : ∀ k, ((w.alloc zeroTok).alloc (.cells t.cells.toArray 63)).cell? ⟨w.heap.size, k, none⟩ = (w.alloc zeroTok).cell? ⟨w.heap.size, k, none⟩ := fun k => World.cell?_alloc_past _ _ _ (by rw [hz]; show w.heap.size < _; omega)
  refine ⟨by rw [hn]; rfl, by rw [hn]; rfl, by rw [hn]; rfl, by rw [hn]; rfl, by rw [hn]; rfl, ?_, ?_, ?_, ?_, ?_, fun k => World.frozen?_alloc_at _ _ _ _ hz.symm, fun k => ?_, by simp, ((Below.refl _ _).alloc (Nat.le_refl _) _).alloc (by simp) _⟩
  · rw [ho]; exact World.cell?_alloc_at _ _ _ _ rfl
  · rw [ho]; exact World.cell?_alloc_at _ _ _ _ rfl
  · rw [ho]; exact World.cell?_alloc_at _ _ _ _ rfl
  · rw [ho]; exact World.cell?_alloc_at _ _ _ _ rfl
  · rw [ho]; exact World.cell?_alloc_at _ _ _ _ rfl
  · rw [World.frozen?_alloc_past _ _ _ (by rw [hz]; show w.heap.size < _; omega)]
    exact World.frozen?_alloc_at _ _ _ _ rfl
theorem NB.kind {w wr : World} {t : Tok} (h : NB w wr t) (kd : Nat) : NB w (wr.setCell ⟨w.heap.size + 1, 0, none⟩ (.int .i64 kd)) { t with kind := kd } where
  a0 := World.cell?_setCell_same _ _ _ h.a0
  a1 := (World.cell?_setCell_other _ _ _ _ (by simp)).trans h.a1
  a2 := (World.cell?_setCell_other _ _ _ _ (by simp)).trans h.a2
  a3 := (World.cell?_setCell_other _ _ _ _ (by simp)).trans h.a3
  a4 := (World.cell?_setCell_other _ _ _ _ (by simp)).trans h.a4
  z0 := (World.cell?_setCell_other _ _ _ _ (by simp)).trans h.z0
  z1 := (World.cell?_setCell_other _ _ _ _ (by simp)).trans h.z1
  z2 := (World.cell?_setCell_other _ _ _ _ (by simp)).trans h.z2
  z3 := (World.cell?_setCell_other _ _ _ _ (by simp)).trans h.z3
  z4 := (World.cell?_setCell_other _ _ _ _ (by simp)).trans h.z4
  fa := fun k => (World.frozen?_setCell _ _ _ _).trans (h.fa k)
  fz := fun k => (World.frozen?_setCell _ _ _ _).trans (h.fz k)
  sz := by simp [h.sz]
  bl := h.bl.setCell (by show _ ≤ w.heap.size + 1; omega) _
theorem NB.num {w wr : World} {t : Tok} (h : NB w wr t) (n : Nat) : NB w (wr.setCell ⟨w.heap.size + 1, 2, none⟩ (.int .i64 n)) { t with n := n } where
  a0 := (World.cell?_setCell_other _ _ _ _ (by simp)).trans h.a0
  a1 := (World.cell?_setCell_other _ _ _ _ (by simp)).trans h.a1
  a2 := World.cell?_setCell_same _ _ _ h.a2
  a3 := (World.cell?_setCell_other _ _ _ _ (by simp)).trans h.a3
  a4 := (World.cell?_setCell_other _ _ _ _ (by simp)).trans h.a4
  z0 := (World.cell?_setCell_other _ _ _ _ (by simp)).trans h.z0
  z1 := (World.cell?_setCell_other _ _ _ _ (by simp)).trans h.z1
  z2 := (World.cell?_setCell_other _ _ _ _ (by simp)).trans h.z2
  z3 := (World.cell?_setCell_other _ _ _ _ (by simp)).trans h.z3
  z4 := (World.cell?_setCell_other _ _ _ _ (by simp)).trans h.z4
  fa := fun k => (World.frozen?_setCell _ _ _ _).trans (h.fa k)
  fz := fun k => (World.frozen?_setCell _ _ _ _).trans (h.fz k)
  sz := by simp [h.sz]
  bl := h.bl.setCell (by show _ ≤ w.heap.size + 1; omega) _
/-- The bytes between two places. -/
def mid (s : ByteArray) (k e : Nat) : List UInt8 := (s.data.toList.drop k).take (e - k)
theorem mid_all (s : ByteArray) (i e : Nat) : (s.extract i e).data.toList = mid s i e := by rw [Lib.extract_data]; rfl
theorem mid_step {s : ByteArray} {k e : Nat} (h : k < e) (he : e ≤ s.size) : mid s k e = s.data[k]! :: mid s (k + 1) e := by
  unfold mid
  rw [drop_at s k (by omega)]
  obtain ⟨d, hd⟩ : ∃ d, e - k = d + 1 := ⟨e - k - 1, by omega⟩
  rw [hd, List.take_succ_cons]
  congr 2; omega
theorem mid_end (s : ByteArray) (e : Nat) : mid s e e = [] := by unfold mid; simp
/-- What digits spell behind a number, if it is one. -/
def numA (n : Nat) (l : List UInt8) : Option Nat := (digs n l).filter fun v => decide (v ≤ big63)
theorem num_bad {n : Nat} {c : UInt8} {r : List UInt8} (h : digitB c.toNat = false) : numA n (c :: r) = none := by
  simp [numA, digs, h]
theorem num_big {n : Nat} {c : UInt8} {r : List UInt8} (h : big63 < n * 10 + (c.toNat - 48)) : numA n (c :: r) = none := by
  unfold numA digs
  split
  · cases hd : digs (n * 10 + (c.toNat - 48)) r with
    | none => rfl
    | some v =>
      have := digs_ge _ _ _ hd
      have h2 : ¬ v ≤ big63 := by omega
      simp [Option.filter, h2]
  · rfl
theorem num_step {n : Nat} {c : UInt8} {r : List UInt8} (h : digitB c.toNat = true) : numA n (c :: r) = numA (n * 10 + (c.toNat - 48)) r := by
  simp [numA, digs, h]
theorem num_end {n : Nat} (h : n ≤ big63) : numA n [] = some n := by simp [numA, digs, Option.filter, h]
def boxT (s : ByteArray) (kd n i e : Nat) : Tok := ⟨kd, s.extract i e, n, i, e⟩
set_option maxRecDepth 100000 in
/-- What the number's digits come to, if it is one. -/
def numR (s : ByteArray) (i : Nat) : Option Nat := if i + 1 < wordN s i ∧ B s i = 48 then none else numV (s.extract i (wordN s i)).data.toList
theorem numT_eq (s : ByteArray) (i : Nat) : numT s i = match numR s i with | some v => boxT s 2 v i (wordN s i) | none => boxT s 7 0 i (wordN s i) := by
  unfold numT numR
  split
  · rfl
  · cases numV (s.extract i (wordN s i)).data.toList <;> rfl
set_option maxRecDepth 100000 in
set_option maxHeartbeats 4000000 in
theorem number_ref (s : ByteArray) (i : Nat) (w : World) (hs : s.size ≤ 1000000000) (hi : i < s.size) (hd : digitB (B s i) = true) :
    Calls Tryd.prog 78 #[.string s, .int .i64 i] w fun e w' => e = .returned (numT s i).val ∧ Below w.heap.size w w' := by
  have hw := word_le s i (by omega)
  have hst := word_step hi (show alnumB (B s i) = true by unfold alnumB; rw [hd]; simp)
  have KW := Lib.hid (word_ref s i (w.alloc zeroTok) (by omega) (by omega))
  have HT := Lib.hid (numT_eq s i)
  have hR : (i + 1 < wordN s i ∧ B s i = 48 ∧ numR s i = none) ∨ (¬ (i + 1 < wordN s i ∧ B s i = 48) ∧ numA 0 (mid s i (wordN s i)) = numR s i) := by
    unfold numR
    by_cases h : i + 1 < wordN s i ∧ B s i = 48
    · exact .inl ⟨h.1, h.2, if_pos h⟩
    · refine .inr ⟨h, ?_⟩
      rw [if_neg h, mid_all]; rfl
  generalize numR s i = R at *
  generalize wordN s i = j at *
  have hbi := B_at s i hi
  clear hd
  have hcase : ((((B s i : Nat) : Int) == 48) = true ∧ decide ((i : Int) + 1 < (j : Int)) = true ∧ R = none) ∨ ((((B s i : Nat) : Int) == 48) = true ∧ decide ((i : Int) + 1 < (j : Int)) = false ∧ numA 0 (mid s i j) = R) ∨ ((((B s i : Nat) : Int) == 48) = false ∧ True ∧ numA 0 (mid s i j) = R) := by
    rcases hR with ⟨h1, h2, h3⟩ | ⟨h1, h2⟩
    · exact .inl ⟨by simp; omega, by simp; omega, h3⟩
    · by_cases hb : B s i = 48
      · exact .inr (.inl ⟨by simp; omega, by simp; omega, h2⟩)
      · exact .inr (.inr ⟨by simp; omega, trivial, h2⟩)
  clear hR
  generalize B s i = b at *
  rcases hcase with ⟨t1, t2, hR⟩ | ⟨t1, t2, hR⟩ | ⟨t1, t2, hR⟩
  all_goals
    have HR := Lib.hid hR
    clear hR
    go_enter Tryd.func78, Tryd.ntmps78
    go_wp2_with fail
    refine KW.out.mono ?_
    rintro e w1 ⟨rfl, rfl⟩
    go_wp2_with fail
    clear t1 t2 hbi
    go_loopw [7, 8] (fun kv vv wr => ∃ k kd n : Nat, i ≤ k ∧ k ≤ j ∧ kv = .int .i64 k ∧ NB w wr (boxT s kd n i j) ∧ n ≤ big63 ∧ ((kd = 2 ∧ numA n (mid s k j) = R) ∨ (kd = 7 ∧ R = none))) (fun kv _ _ => j - (intOf kv).toNat)
    case atStart => first | exact ⟨i, 7, 0, by omega, by omega, rfl, NB.start w (boxT s 7 0 i j), Nat.zero_le _, .inr ⟨rfl, HR.out⟩⟩ | exact ⟨i, 2, 0, by omega, by omega, rfl, NB.start w (boxT s 2 0 i j), Nat.zero_le _, .inl ⟨rfl, HR.out⟩⟩
    case round =>
      clear HR
      obtain ⟨k, kd, n, hk1, hk, rfl, hNB, hn, hc⟩ := hrel
      have HNB := Lib.hid hNB
      have c0 := hNB.a0
      have c1 := hNB.a1
      have c2 := hNB.a2
      have c3 := hNB.a3
      have c4 := hNB.a4
      have z0 := hNB.z0
      have z1 := hNB.z1
      have z2 := hNB.z2
      have z3 := hNB.z3
      have z4 := hNB.z4
      have fa := hNB.fa
      have fz := hNB.fz
      have sz := Lib.hid hNB.sz
      clear hNB
      simp only [boxT] at c0 c1 c2 c3 c4
      rcases hc with ⟨rfl, hA⟩ | ⟨rfl, hA⟩
      · by_cases hlt : k < j
        · have hb := B_at s k (by omega)
          have hu := B_lt s k
          have hms := mid_step hlt hw.2
          have KD0 := fun W => digit_ref (B s k) W hu
          cases hd : digitB (B s k) with
          | false =>
            have HA := Lib.hid (show R = none by rw [← hA, hms]; exact num_bad hd)
            rw [hd] at KD0
            have KD := Lib.hid KD0
            clear hA hms hd KD0
            generalize B s k = c at *
            go_wp2_with fail
            refine (KD.out _).mono ?_
            rintro e w1 ⟨rfl, rfl⟩
            go_wp2_with fail
            go_roundw
            case rel => exact ⟨k + 1, 7, n, by omega, by omega, by go_num, HNB.out.kind 7, hn, .inr ⟨rfl, HA.out⟩⟩
            case measure => simp [intOf]; omega
          | true =>
            have h48 : 48 ≤ B s k ∧ B s k ≤ 57 := by unfold digitB at hd; exact of_decide_eq_true hd
            rw [hd] at KD0
            have KD := Lib.hid KD0
            by_cases hbig : n * 10 + (B s k - 48) ≤ big63
            · have HA := Lib.hid (show numA (n * 10 + (B s k - 48)) (mid s (k + 1) j) = R by rw [← hA, hms]; exact (num_step hd).symm)
              have HB := Lib.hid hbig
              have hbg : (n : Int) * 10 + ((B s k : Nat) - 48 : Int) ≤ 9223372036854775807 := by unfold big63 at hbig; omega
              clear hA hms hd KD0 hbig
              generalize B s k = c at *
              go_wp2_with fail
              refine (KD.out _).mono ?_
              rintro e w1 ⟨rfl, rfl⟩
              go_wp2_with fail
              go_roundw
              case rel =>
                refine ⟨k + 1, 2, n * 10 + (c - 48), by omega, by omega, by go_num, ?_, HB.out, .inl ⟨rfl, HA.out⟩⟩
                have h := HNB.out.num (n * 10 + (c - 48))
                rw [show ((n * 10 + (c - 48) : Nat) : Int) = 10 * (n : Int) + ((c : Int) - 48) by omega] at h
                exact h
              case measure => simp [intOf]; omega
            · have HA := Lib.hid (show R = none by rw [← hA, hms]; exact num_big (by show big63 < n * 10 + (B s k - 48); omega))
              have hbg : 9223372036854775807 < (n : Int) * 10 + ((B s k : Nat) - 48 : Int) := by unfold big63 at hbig; omega
              clear hA hms hd KD0 hbig
              generalize B s k = c at *
              go_wp2_with fail
              refine (KD.out _).mono ?_
              rintro e w1 ⟨rfl, rfl⟩
              go_wp2_with fail
              go_roundw
              case rel => exact ⟨k + 1, 7, n, by omega, by omega, by go_num, HNB.out.kind 7, hn, .inr ⟨rfl, HA.out⟩⟩
              case measure => simp [intOf]; omega
        · obtain rfl : k = j := by omega
          have HD := Lib.hid (show numT s i = boxT s 2 n i k by rw [HT.out, ← hA, mid_end, num_end hn])
          clear hA HT
          go_wp2_with fail
          refine bodyPost_ret (v := (boxT s 2 n i k : Tok).val) (by simp [results, Tryd.results78, go_sem, Tok.val, Tok.cells, boxT, z0, z1, z2, z3, z4]) rfl ?_
          exact ⟨by rw [HD.out], below_five HNB.out.bl _ _ _ _ _⟩
      · have HD := Lib.hid (show numT s i = boxT s 7 0 i j by rw [HT.out, hA])
        clear hA HT
        have t7 : ((2 : Int) == 7) = false := rfl
        by_cases hlt : k < j
        all_goals
          go_wp2_with fail
          refine bodyPost_ret (v := (boxT s 7 0 i j : Tok).val) (by simp [results, Tryd.results78, go_sem, Tok.val, Tok.cells, boxT, z0, z1, z2, z3, z4]) rfl ?_
          exact ⟨by rw [HD.out], below_five (HNB.out.num 0).bl _ _ _ _ _⟩
end Go.Proofs.YtlgklkokadbpeaaDoor
