import Derived.Test.YtogoolpgajopcaaTrGb
import Derived.Test.YtogoolpgajopcaaTrGc
import Derived.Test.YtogoolpgajopcaaTrGc2
import Derived.Test.YtogoolpgajopcaaTrB
import Derived.Test.YtogoolpgajopcaaTrGk
import Derived.Test.YtogoolpgajopcaaTrGl
import Derived.Test.YtogoolpgajopcaaTrGm
import Derived.Test.YtogoolpgajopcaaTrGm2
import Derived.Test.YtogoolpgajopcaaTrF
namespace Go.Proofs.Ytogoolpgajopcaa
open Go.RowKit
theorem decl_prog (P : Fo) : FunP 59 (·.dec) P := by
  intro k t n m a A c w hH hlc hcc ht
  simp only [val6, cells6]
  show Calls _ _ _ _ fun e w' => e = .returned (.bool (declB k t n m P.inf)) ∧ Below w.heap.size w w'
  by_cases h70 : k = 70
  · subst h70
    rw [show declB 70 t n m P.inf = impD n m P.inf from rfl]
    exact decl_70 P t n m a A c w hH hlc hcc
  by_cases hmi : (m = 0 ∨ m = 1) ∧ idB t = true
  case neg =>
    rw [show declB k t n m P.inf = false by unfold declB; rw [if_neg h70, if_neg hmi]]
    exact decl_no P k t n m a A c w h70 ht hmi
  have e : declB k t n m P.inf = (if k = 72 then typeD n P.inf else if k = 74 then interD n P.inf else if k = 76 then classD n P.inf else if k = 80 then funcD n P.inf true else if k = 81 then funcD n P.inf false else if k = 82 then constD n P.inf else false) := by
    unfold declB; rw [if_neg h70, if_pos hmi]
  rw [e]
  obtain ⟨hm, hid⟩ := hmi
  by_cases h72 : k = 72
  · subst h72; exact decl_72 P t n m a A c w hH hlc hcc ht hm hid
  by_cases h74 : k = 74
  · subst h74; exact decl_74 P t n m a A c w hH hlc hcc ht hm hid
  by_cases h76 : k = 76
  · subst h76; exact decl_76 P t n m a A c w hH hlc hcc ht hm hid
  by_cases h80 : k = 80
  · subst h80; exact decl_80_any P t n m a A c w hH hlc hcc ht hm hid
  by_cases h81 : k = 81
  · subst h81; exact decl_81_any P t n m a A c w hH hlc hcc ht hm hid
  by_cases h82 : k = 82
  · subst h82; exact decl_82 P t n m a A c w hH hlc hcc ht hm hid
  rw [if_neg h72, if_neg h74, if_neg h76, if_neg h80, if_neg h81, if_neg h82]
  exact decl_else P k t n m a A c w ht hm hid ⟨h70, h72, h74, h76, h80, h81, h82⟩
def fileB (k : Int) (t : ByteArray) (n m : Int) (l : List Inf) (N : Nat) : Bool := (k == 90) && (bareB t n m && (decide (N ≤ 20000) && l.all (·.dec)))
set_option maxRecDepth 100000 in
set_option maxHeartbeats 4000000 in
theorem file_prog (P : Fo) (k : Int) (t : ByteArray) (n m a : Int) (A : Option Addr) (c : Nat) (w : World) (hH : Holds w w.heap.size P A 0) (hlc : P.len ≤ c) (hcc : c ≤ 1000000000000000) :
    Calls Try.prog 17 #[.agg #[.int .i64 k, .string t, .int .i64 n, .int .i64 m, .int .i64 a, .slice A P.len c]] w fun e w' => e = .returned (.bool (fileB k t n m P.inf (1 + P.nodes))) ∧ Below w.heap.size w w' := by
  have hl : P.len ≤ 1000000000000000 := by omega
  obtain ⟨y, hy⟩ : ∃ y, fileB k t n m P.inf (1 + P.nodes) = y := ⟨_, rfl⟩
  rw [hy]
  unfold fileB at hy
  have KB := Lib.hid (bare_any k t n m a P.len A c)
  unfold Flat at KB
  have KN := Lib.hid (fun W (hW : Below w.heap.size w W) => nodes_prog P k t n m a A c W ((hH.below hW).more hW.size) hl)
  simp only [val6, cells6] at KN
  have KA := Lib.hid (fun W (hW : Below w.heap.size w W) => all_decl (·.dec) P (AllC.of decl_prog P) A c W ((hH.below hW).more hW.size) hl)
  generalize P.inf.all (·.dec) = b2 at *
  by_cases hk : k = 90
  case neg =>
    have tk : (k != 90) = true := by simpa using hk
    have HY : Hid (false = y) := Lib.hid (by rw [← hy, beq_eq_false_iff_ne.2 hk]; rfl)
    clear hy hk KB KN KA hH hlc
    generalize P.len = x at *
    go_enter Try.func17, Try.ntmps17
    go_wp2_with fail
    go_ret
    exact ⟨ret_bool HY.out, (Below.refl _ _).alloc (Nat.le_refl _) _⟩
  subst hk
  rw [show ((90 : Int) == 90) = true from rfl, Bool.true_and] at hy
  cases hb : bareB t n m with
  | false =>
    rw [hb] at KB hy
    have HY : Hid (false = y) := Lib.hid (by rw [← hy]; rfl)
    clear hy hb KN KA hH hlc
    generalize P.len = x at *
    go_enter Try.func17, Try.ntmps17
    go_wp2_with (first
      | (go_at_call 32; refine (KB.out _).mono ?_; rintro e w1 ⟨rfl, hb⟩; have bx := Box.later (by first | assumption | exact Box.new _ _ _ _ _ _ _ _ _) hb; have bx2 := bx; obtain ⟨-, -, c0, c1, c2, c3, c4, c5⟩ := bx2))
    go_ret
    exact ⟨ret_bool HY.out, Box.below (by assumption)⟩
  | true =>
  rw [hb] at KB hy
  rw [Bool.true_and] at hy
  by_cases hN : 1 + P.nodes ≤ 20000
  case neg =>
    have HY : Hid (false = y) := Lib.hid (by rw [← hy, decide_eq_false hN]; rfl)
    have tN : decide ((20000 : Int) < (cap20 (1 + P.nodes) : Nat)) = true := by unfold cap20; rw [if_neg hN]; rfl
    clear hy hb hN hH hlc KA
    generalize cap20 (1 + P.nodes) = z at *
    generalize P.len = x at *
    go_enter Try.func17, Try.ntmps17
    go_wp2_with (first
      | (go_at_call 32; refine (KB.out _).mono ?_; rintro e w1 ⟨rfl, hb⟩; have bx := Box.later (by first | assumption | exact Box.new _ _ _ _ _ _ _ _ _) hb; have bx2 := bx; obtain ⟨-, -, c0, c1, c2, c3, c4, c5⟩ := bx2)
      | (go_at_call 19; refine (KN.out _ (by first | exact Box.below (by assumption) | exact (Below.refl _ _).alloc (Nat.le_refl _) _)).mono ?_; rintro e w1 ⟨rfl, hb⟩; have bx := Box.later (by first | assumption | exact Box.new _ _ _ _ _ _ _ _ _) hb; have bx2 := bx; obtain ⟨-, -, c0, c1, c2, c3, c4, c5⟩ := bx2))
    go_ret
    exact ⟨ret_bool HY.out, Box.below (by assumption)⟩
  rw [decide_eq_true hN, Bool.true_and] at hy
  have tN : decide ((20000 : Int) < (cap20 (1 + P.nodes) : Nat)) = false := by unfold cap20; rw [if_pos hN, decide_eq_false (by omega)]
  have HY := Lib.hid hy
  clear hy hb hN hH hlc
  generalize cap20 (1 + P.nodes) = z at *
  generalize P.len = x at *
  go_enter Try.func17, Try.ntmps17
  go_wp2_with (first
    | (go_at_call 32; refine (KB.out _).mono ?_; rintro e w1 ⟨rfl, hb⟩; have bx := Box.later (by first | assumption | exact Box.new _ _ _ _ _ _ _ _ _) hb; have bx2 := bx; obtain ⟨-, -, c0, c1, c2, c3, c4, c5⟩ := bx2)
    | (go_at_call 19; refine (KN.out _ (by first | exact Box.below (by assumption) | exact (Below.refl _ _).alloc (Nat.le_refl _) _)).mono ?_; rintro e w1 ⟨rfl, hb⟩; have bx := Box.later (by first | assumption | exact Box.new _ _ _ _ _ _ _ _ _) hb; have bx2 := bx; obtain ⟨-, -, c0, c1, c2, c3, c4, c5⟩ := bx2)
    | (go_at_call 34; refine (KA.out _ (by first | exact Box.below (by assumption) | exact (Below.refl _ _).alloc (Nat.le_refl _) _)).mono ?_; rintro e w1 ⟨rfl, hb⟩; have bx := Box.later (by first | assumption | exact Box.new _ _ _ _ _ _ _ _ _) hb; have bx2 := bx; obtain ⟨-, -, c0, c1, c2, c3, c4, c5⟩ := bx2))
  go_ret
  exact ⟨ret_bool HY.out, Box.below (by assumption)⟩
end Go.Proofs.Ytogoolpgajopcaa
namespace Go.Proofs.Ytogoolpgajopcaa
open Go.RowKit
set_option maxRecDepth 100000 in
set_option maxHeartbeats 6000000 in
theorem rdecl_81_any (P : Fo) (t : ByteArray) (n m a : Int) (A : Option Addr) (c : Nat) (w : World) (hH : Holds w w.heap.size P A 0) (hlc : P.len ≤ c) (hcc : c ≤ 1000000000000000) (ht : t.size ≤ 1000000000000000) (hm : m = 0 ∨ m = 1) (hid : idB t = true)  :
    Calls Try.prog 60 #[.agg #[.int .i64 81, .string t, .int .i64 n, .int .i64 m, .int .i64 a, .slice A P.len c]] w fun e w' => e = .returned (.bool (funcD n P.inf false)) ∧ Below w.heap.size w w' := by
  cases hv : runB 73 (·.var) P.inf with
  | false => exact rdecl_81_no P t n m a A c w hH hlc hcc ht hm hid hv
  | true =>
    rcases Nat.eq_zero_or_pos P.len with h0 | h0
    · have hP : P = .nil := by
        cases P with
        | nil => rfl
        | cons => simp [Fo.len] at h0
      subst hP
      clear h0
      simp only [show Fo.nil.len = 0 from rfl] at hlc ⊢
      rcases Nat.eq_zero_or_pos c with rfl | hc
      · cases A with
        | none => exact rdecl_81_n0 t n m a w hH hlc hcc ht hm hid hv
        | some ad => exact rdecl_81_s0 t n m a ad w hH hlc hcc ht hm hid hv
      · cases A with
        | none => exact rdecl_81_n1 t n m a c w hH hlc hcc ht hm hid hc hv
        | some ad => exact rdecl_81_s1 t n m a ad c w hH hlc hcc ht hm hid hc hv
    · obtain ⟨k9, t9, n9, m9, a9, Q9, ad, A9, d9, R9, rfl, -, -, -⟩ := part_at hH (j := 0) h0
      have hr : runN 73 P.inf ≤ P.len := by have := runN_le 73 P.inf; rwa [inf_len] at this
      by_cases hc : c = runN 73 P.inf
      · exact rdecl_81_c P t n m a ad c w hH hlc hcc ht hm hid _ rfl hc h0 hv
      · exact rdecl_81_l P t n m a ad c w hH hlc hcc ht hm hid _ rfl (by omega) h0 hv
theorem rdecl_prog (P : Fo) : FunP 60 (·.dec) P := by
  intro k t n m a A c w hH hlc hcc ht
  simp only [val6, cells6]
  show Calls _ _ _ _ fun e w' => e = .returned (.bool (declB k t n m P.inf)) ∧ Below w.heap.size w w'
  by_cases h70 : k = 70
  · subst h70
    rw [show declB 70 t n m P.inf = impD n m P.inf from rfl]
    exact rdecl_70 P t n m a A c w hH hlc hcc ht
  by_cases hmi : (m = 0 ∨ m = 1) ∧ idB t = true
  case neg =>
    rw [show declB k t n m P.inf = false by unfold declB; rw [if_neg h70, if_neg hmi]]
    exact rdecl_no P k t n m a A c w hH hlc hcc ht h70 hmi
  have e : declB k t n m P.inf = (if k = 72 then typeD n P.inf else if k = 74 then interD n P.inf else if k = 76 then classD n P.inf else if k = 80 then funcD n P.inf true else if k = 81 then funcD n P.inf false else if k = 82 then constD n P.inf else false) := by
    unfold declB; rw [if_neg h70, if_pos hmi]
  rw [e]
  obtain ⟨hm, hid⟩ := hmi
  by_cases h72 : k = 72
  · subst h72; exact rdecl_72 P t n m a A c w hH hlc hcc ht hm hid
  by_cases h74 : k = 74
  · subst h74; exact rdecl_74 P t n m a A c w hH hlc hcc ht hm hid
  by_cases h76 : k = 76
  · subst h76; exact rdecl_76 P t n m a A c w hH hlc hcc ht hm hid
  by_cases h80 : k = 80
  · subst h80; exact rdecl_80_any P t n m a A c w hH hlc hcc ht hm hid
  by_cases h81 : k = 81
  · subst h81; exact rdecl_81_any P t n m a A c w hH hlc hcc ht hm hid
  by_cases h82 : k = 82
  · subst h82; exact rdecl_82 P t n m a A c w hH hlc hcc ht hm hid
  rw [if_neg h72, if_neg h74, if_neg h76, if_neg h80, if_neg h81, if_neg h82]
  exact rdecl_else P k t n m a A c w hH hlc hcc ht hm hid ⟨h70, h72, h74, h76, h80, h81, h82⟩
set_option maxRecDepth 100000 in
set_option maxHeartbeats 4000000 in
theorem rfile_any (P : Fo) (k : Int) (t : ByteArray) (n m a : Int) (A : Option Addr) (c : Nat) (w : World) (hH : Holds w w.heap.size P A 0) (hlc : P.len ≤ c) (hcc : c ≤ 1000000000000000) :
    Calls Try.prog 18 #[.agg #[.int .i64 k, .string t, .int .i64 n, .int .i64 m, .int .i64 a, .slice A P.len c]] w fun e w' => e = .returned (.bool (fileB k t n m P.inf (1 + P.nodes))) ∧ Below w.heap.size w w' := by
  have hl : P.len ≤ 1000000000000000 := by omega
  obtain ⟨y, hy⟩ : ∃ y, fileB k t n m P.inf (1 + P.nodes) = y := ⟨_, rfl⟩
  rw [hy]
  unfold fileB at hy
  have KB := Lib.hid (rplain_any k t n m a P.len A c)
  unfold Flat at KB
  have KN := Lib.hid (fun W (hW : Below w.heap.size w W) => nodes_ref P k t n m a A c W ((hH.below hW).more hW.size) hl)
  simp only [val6, cells6] at KN
  by_cases hk : k = 90
  case neg =>
    have tk : (k != 90) = true := by simpa using hk
    have HY : Hid (false = y) := Lib.hid (by rw [← hy, beq_eq_false_iff_ne.2 hk]; rfl)
    clear hy hk KB KN hH hlc
    generalize P.len = x at *
    go_enter Try.func18, Try.ntmps18
    go_wp2_with fail
    go_ret
    exact ⟨ret_bool HY.out, (Below.refl _ _).alloc (Nat.le_refl _) _⟩
  subst hk
  rw [show ((90 : Int) == 90) = true from rfl, Bool.true_and] at hy
  cases hb : bareB t n m with
  | false =>
    rw [hb] at KB hy
    have HY : Hid (false = y) := Lib.hid (by rw [← hy]; rfl)
    clear hy hb KN hH hlc
    generalize P.len = x at *
    go_enter Try.func18, Try.ntmps18
    go_wp2_with (first
      | (go_at_call 42; refine (KB.out _).mono ?_; rintro e w1 ⟨rfl, hb⟩; have bx := Box.later (by first | assumption | exact Box.new _ _ _ _ _ _ _ _ _) hb; have bx2 := bx; obtain ⟨-, -, c0, c1, c2, c3, c4, c5⟩ := bx2))
    go_ret
    exact ⟨ret_bool HY.out, Box.below (by assumption)⟩
  | true =>
  rw [hb] at KB hy
  rw [Bool.true_and] at hy
  by_cases hN : 1 + P.nodes ≤ 20000
  case neg =>
    have HY : Hid (false = y) := Lib.hid (by rw [← hy, decide_eq_false hN]; rfl)
    have tN : decide ((20000 : Int) < (cap20 (1 + P.nodes) : Nat)) = true := by unfold cap20; rw [if_neg hN]; rfl
    clear hy hb hN hH hlc
    generalize cap20 (1 + P.nodes) = z at *
    generalize P.len = x at *
    go_enter Try.func18, Try.ntmps18
    go_wp2_with (first
      | (go_at_call 42; refine (KB.out _).mono ?_; rintro e w1 ⟨rfl, hb⟩; have bx := Box.later (by first | assumption | exact Box.new _ _ _ _ _ _ _ _ _) hb; have bx2 := bx; obtain ⟨-, -, c0, c1, c2, c3, c4, c5⟩ := bx2)
      | (go_at_call 20; refine (KN.out _ (by first | exact Box.below (by assumption) | exact (Below.refl _ _).alloc (Nat.le_refl _) _)).mono ?_; rintro e w1 ⟨rfl, hb⟩; have bx := Box.later (by first | assumption | exact Box.new _ _ _ _ _ _ _ _ _) hb; have bx2 := bx; obtain ⟨-, -, c0, c1, c2, c3, c4, c5⟩ := bx2))
    go_ret
    exact ⟨ret_bool HY.out, Box.below (by assumption)⟩
  rw [decide_eq_true hN, Bool.true_and] at hy
  have tN : decide ((20000 : Int) < (cap20 (1 + P.nodes) : Nat)) = false := by unfold cap20; rw [if_pos hN, decide_eq_false (by omega)]
  have HY := Lib.hid hy
  have HH := Lib.hid hH
  have HL := Lib.hid (AllC.of rdecl_prog P)
  clear hy hb hN hH
  generalize cap20 (1 + P.nodes) = z at *
  go_enter Try.func18, Try.ntmps18
  go_wp2_with (first
    | (go_at_call 42; refine (KB.out _).mono ?_; rintro e w1 ⟨rfl, hb⟩; have bx := Box.later (by first | assumption | exact Box.new _ _ _ _ _ _ _ _ _) hb; have bx2 := bx; obtain ⟨-, -, c0, c1, c2, c3, c4, c5⟩ := bx2)
    | (go_at_call 20; refine (KN.out _ (by first | exact Box.below (by assumption) | exact (Below.refl _ _).alloc (Nat.le_refl _) _)).mono ?_; rintro e w1 ⟨rfl, hb⟩; have bx := Box.later (by first | assumption | exact Box.new _ _ _ _ _ _ _ _ _) hb; have bx2 := bx; obtain ⟨-, -, c0, c1, c2, c3, c4, c5⟩ := bx2))
  have HBX := Lib.hid bx
  clear bx hb c0 c1 c2 c3 c4 c5
  go_loopw [3] (fun v wr => ∃ (j : Nat) (Q : Fo), j + Q.len = P.len ∧ v = .int .i64 j ∧ Q.inf.all (·.dec) = y ∧ AllC (FunP 60 (·.dec)) Q ∧ Holds wr w.heap.size Q A j ∧ Box w w.heap.size 90 t n m a P.len A c wr) (fun v _ => P.len - (intOf v).toNat)
  case atStart => exact ⟨0, P, by omega, rfl, HY.out, HL.out, HH.out.below HBX.out.below, HBX.out⟩
  case round =>
    obtain ⟨j, Q, hj, rfl, hq, hlf, hHr, hBox⟩ := hrel
    have HBb := Lib.hid hBox
    have HBw := Lib.hid hBox.below
    have HQ := Lib.hid hq
    obtain ⟨-, -, -, -, -, -, -, x5⟩ := hBox
    clear hq HBX HL HH HY
    cases Q with
    | nil =>
      have tj : decide ((j : Int) < (P.len : Int)) = false := by simp; simp [Fo.len] at hj; omega
      have tj2 : decide (j < P.len) = false := by simp; simp [Fo.len] at hj; omega
      clear hj hlf hHr
      go_wp2_with fail
      go_ret
      exact ⟨ret_bool HQ.out, HBw.out⟩
    | cons k1 t1 n1 m1 a1 P1 R1 =>
      obtain ⟨⟨ad, A1, c1, rfl, hblk, hcell, hc1, hc2, ht1, hP1⟩, hR1⟩ := hHr
      obtain ⟨hf1, hlf⟩ := hlf
      have hjl : j + 1 + R1.len = P.len := by simp only [Fo.len] at hj; omega
      have hjl2 : j < P.len := by omega
      have tj : decide ((j : Int) < (P.len : Int)) = true := by simp; omega
      obtain ⟨f0, f1, f2, f3, f4, f5⟩ := six hcell
      have hwr := HBw.out.size
      have K := Lib.hid (hf1 k1 t1 n1 m1 a1 A1 c1 _ (hP1.more hwr) hc1 hc2 ht1)
      simp only [val6, cells6] at K
      have HQ2 : Hid (((mk k1 t1 n1 m1 P1.inf).dec && R1.inf.all (·.dec)) = y) := Lib.hid (by rw [← HQ.out]; simp [Fo.inf])
      have HR1 := Lib.hid hR1
      have HLF := Lib.hid hlf
      generalize (mk k1 t1 n1 m1 P1.inf).dec = b at *
      clear hcell hR1 hlf hj hP1 hf1 HQ
      go_wp2_with fail
      refine K.out.mono ?_
      rintro e w2 ⟨rfl, hb⟩
      have HB3 := Lib.hid hb
      have HBb3 := Lib.hid (HBb.out.later hb)
      have HH2 := Lib.hid (HR1.out.below (HB3.out.mono HBw.out.size))
      clear hb
      cases b with
      | false =>
        have HD : Hid (false = y) := Lib.hid (by rw [← HQ2.out]; rfl)
        go_wp2_with fail
        go_ret
        exact ⟨ret_bool HD.out, below_step HBw.out HB3.out⟩
      | true =>
        have HD : Hid (R1.inf.all (·.dec) = y) := Lib.hid (by rw [← HQ2.out]; rfl)
        go_wp2_with fail
        go_roundw
        case rel => exact ⟨j + 1, R1, hjl, by go_num, HD.out, HLF.out, HH2.out, HBb3.out⟩
        case measure => simp [intOf]; omega
end Go.Proofs.Ytogoolpgajopcaa
namespace Go.Proofs.Ytogoolpgajopcaa
open Go.RowKit
def LawPost (w : World) (e : Ending) (w' : World) : Prop := e = .returned (.bool true) ∧ Below w.heap.size w w'
set_option maxHeartbeats 1000000 in
theorem small_prog (k : Int) (t : ByteArray) (n m a : Int) (P : Fo) (A : Option Addr) (c : Nat) (w : World) (hH : Holds w w.heap.size P A 0) (hl : P.len ≤ 1000000000000000) :
    Calls Try.prog 10 #[val6 k t n m a P.len A c] w fun e w' => e = .returned (.bool (decide (1 + P.nodes ≤ 20000))) ∧ Below w.heap.size w w' := by
  have hH1 : Holds (w.alloc (.cells (cells6 k t n m a P.len A c).toArray 24)) (w.alloc (.cells (cells6 k t n m a P.len A c).toArray 24)).heap.size P A 0 := (hH.below ((Below.refl _ _).alloc (Nat.le_refl _) _)).more (by simp)
  have K := Lib.hid (nodes_ref P k t n m a A c _ hH1 hl)
  have hD : Hid (decide (((cap20 (1 + P.nodes) : Nat) : Int) ≤ 20000) = decide (1 + P.nodes ≤ 20000)) := Lib.hid (by
    rw [decide_eq_decide]; unfold cap20; split <;> omega)
  simp only [val6, cells6] at K ⊢
  clear hH hH1
  go_enter Try.func10, Try.ntmps10
  go_wp2_with fail
  refine K.out.mono ?_
  rintro e w2 ⟨rfl, hb2⟩
  generalize cap20 (1 + P.nodes) = y at *
  have HB := Lib.hid (below_box hb2)
  clear hb2
  go_wp2_with fail
  go_ret
  exact ⟨ret_bool hD.out, HB.out⟩
set_option maxRecDepth 100000 in
set_option maxHeartbeats 8000000 in
theorem forms_walk (k : Int) (t : ByteArray) (n m a : Int) (P : Fo) (A : Option Addr) (c : Nat) (w : World) (hH : Holds w w.heap.size P A 0) (hl : P.len ≤ c) (hc : c ≤ 1000000000000000) (ht : t.size ≤ 1000000000000000) :
    Calls Try.prog 3 #[val6 k t n m a P.len A c] w (LawPost w) := by
  have HH := Lib.hid hH
  have KA := Lib.hid (fun W => awake_true W)
  simp only [val6, cells6]
  clear hH
  go_enter Try.func3, Try.ntmps3
  go_wp2_with fail
  refine (KA.out _).mono ?_
  rintro e W1 ⟨rfl, hb1⟩
  have FN : Hid (∀ W', Below W1.heap.size W1 W' → W'.cell? ⟨w.heap.size, 0, none⟩ = some (.int .i64 k) ∧ W'.cell? ⟨w.heap.size, 1, none⟩ = some (.string t) ∧ W'.cell? ⟨w.heap.size, 2, none⟩ = some (.int .i64 n) ∧ W'.cell? ⟨w.heap.size, 3, none⟩ = some (.int .i64 m) ∧ W'.cell? ⟨w.heap.size, 4, none⟩ = some (.int .i64 a) ∧ W'.cell? ⟨w.heap.size, 5, none⟩ = some (.slice A P.len c)) := Lib.hid fun W' h => by
    have h2 := hb1.trans (h.mono hb1.size)
    exact ⟨box_cells h2 0, box_cells h2 1, box_cells h2 2, box_cells h2 3, box_cells h2 4, box_cells h2 5⟩
  have HB1 := Lib.hid (below_box hb1)
  have hs1 : w.heap.size + 1 ≤ W1.heap.size := by have := hb1.size; simp at this; omega
  obtain ⟨c0, c1, c2, c3, c4, c5⟩ := FN.out W1 (Below.refl _ _)
  have KSm := Lib.hid (small_prog k t n m a P A c W1 ((HH.out.below HB1.out).more HB1.out.size) (by omega))
  simp only [val6, cells6] at KSm
  clear hb1
  go_wp2_with fail
  refine KSm.out.mono ?_
  rintro e W2 ⟨rfl, hb2⟩
  have HB2 := Lib.hid (below_step HB1.out hb2)
  obtain ⟨d0, d1, d2, d3, d4, d5⟩ := FN.out W2 hb2
  have hs2 := hb2.size
  by_cases hN : 1 + P.nodes ≤ 20000
  case neg =>
    rw [decide_eq_false hN]
    clear hb2 c0 c1 c2 c3 c4 c5 KSm
    go_wp2_with fail
    refine (KA.out _).mono ?_
    rintro e W3 ⟨rfl, hb3⟩
    have HB3 := Lib.hid (below_step HB2.out hb3)
    clear hb3
    go_wp2_with fail
    go_ret
    exact ⟨rfl, HB3.out⟩
  rw [decide_eq_true hN]
  have HB12 := Lib.hid hb2
  have MK : Hid (∀ w', BD W2 w' → BD W2 w' ∧ w'.cell? ⟨w.heap.size, 0, none⟩ = some (.int .i64 k) ∧ w'.cell? ⟨w.heap.size, 1, none⟩ = some (.string t) ∧ w'.cell? ⟨w.heap.size, 2, none⟩ = some (.int .i64 n) ∧ w'.cell? ⟨w.heap.size, 3, none⟩ = some (.int .i64 m) ∧ w'.cell? ⟨w.heap.size, 4, none⟩ = some (.int .i64 a) ∧ w'.cell? ⟨w.heap.size, 5, none⟩ = some (.slice A P.len c)) := Lib.hid (fun w' h => ⟨h, FN.out w' (below_step HB12.out h)⟩)
  have HW : ∀ w', BD W2 w' → Holds w' w'.heap.size P A 0 := fun w' h => (HH.out.below (below_step HB2.out h)).more (below_step HB2.out h).size
  have KP0 := Lib.hid (fun w' (h : BD W2 w') => (type_prog P).1 k t n m a A c w' (HW w' h) hl hc ht)
  have KR0 := Lib.hid (fun w' (h : BD W2 w') => (rtype_prog P).1 k t n m a A c w' (HW w' h) hl hc ht)
  have KP1 := Lib.hid (fun w' (h : BD W2 w') => (expr_prog P).1 k t n m a A c w' (HW w' h) hl hc ht)
  have KR1 := Lib.hid (fun w' (h : BD W2 w') => (rexpr_prog P).1 k t n m a A c w' (HW w' h) hl hc ht)
  have KP2 := Lib.hid (fun w' (h : BD W2 w') => (expr_prog P).2.2.2 k t n m a A c w' (HW w' h) hl hc ht)
  have KR2 := Lib.hid (fun w' (h : BD W2 w') => (rexpr_prog P).2.2.1 k t n m a A c w' (HW w' h) hl hc ht)
  have KP3 := Lib.hid (fun w' (h : BD W2 w') => file_prog P k t n m a A c w' (HW w' h) hl hc)
  have KR3 := Lib.hid (fun w' (h : BD W2 w') => rfile_any P k t n m a A c w' (HW w' h) hl hc)
  simp only [val6, cells6] at KP0 KR0 KP1 KR1 KP2 KR2
  generalize (mk k t n m P.inf).ty = o1 at *
  generalize (mk k t n m P.inf).ex = o2 at *
  generalize (mk k t n m P.inf).st = o3 at *
  generalize fileB k t n m P.inf (1 + P.nodes) = o4 at *
  have B0 := MK.out W2 (Below.refl _ _)
  clear hb2 c0 c1 c2 c3 c4 c5 KSm hN HW HH KA FN
  go_wp2_with fail
  go_region_held3 (fun w' => BD W2 w' ∧ w'.cell? ⟨w.heap.size, 0, none⟩ = some (.int .i64 k) ∧ w'.cell? ⟨w.heap.size, 1, none⟩ = some (.string t) ∧ w'.cell? ⟨w.heap.size, 2, none⟩ = some (.int .i64 n) ∧ w'.cell? ⟨w.heap.size, 3, none⟩ = some (.int .i64 m) ∧ w'.cell? ⟨w.heap.size, 4, none⟩ = some (.int .i64 a) ∧ w'.cell? ⟨w.heap.size, 5, none⟩ = some (.slice A P.len c))
    (first | exact B0 | exact MK.out _ (Below.drew (Below.refl _ _)) | exact MK.out _ (by assumption) | exact MK.out _ (below_step (And.left (by assumption)) (by assumption)) | exact MK.out _ (below_step (by assumption) (by assumption)))
    (first
      | (go_at_call 11; refine (KP0.out _ ?_).mono ?_; (first | exact And.left (by assumption) | exact Below.drew (Below.refl _ _) | assumption); rintro e w' ⟨rfl, hb⟩)
      | (go_at_call 12; refine (KR0.out _ ?_).mono ?_; (first | exact And.left (by assumption) | exact Below.drew (Below.refl _ _) | assumption); rintro e w' ⟨rfl, hb⟩)
      | (go_at_call 13; refine (KP1.out _ ?_).mono ?_; (first | exact And.left (by assumption) | exact Below.drew (Below.refl _ _) | assumption); rintro e w' ⟨rfl, hb⟩)
      | (go_at_call 14; refine (KR1.out _ ?_).mono ?_; (first | exact And.left (by assumption) | exact Below.drew (Below.refl _ _) | assumption); rintro e w' ⟨rfl, hb⟩)
      | (go_at_call 15; refine (KP2.out _ ?_).mono ?_; (first | exact And.left (by assumption) | exact Below.drew (Below.refl _ _) | assumption); rintro e w' ⟨rfl, hb⟩)
      | (go_at_call 16; refine (KR2.out _ ?_).mono ?_; (first | exact And.left (by assumption) | exact Below.drew (Below.refl _ _) | assumption); rintro e w' ⟨rfl, hb⟩)
      | (go_at_call 17; refine (KP3.out _ ?_).mono ?_; (first | exact And.left (by assumption) | exact Below.drew (Below.refl _ _) | assumption); rintro e w' ⟨rfl, hb⟩)
      | (go_at_call 18; refine (KR3.out _ ?_).mono ?_; (first | exact And.left (by assumption) | exact Below.drew (Below.refl _ _) | assumption); rintro e w' ⟨rfl, hb⟩))
  all_goals
    rename_i hS
    have HBe := Lib.hid (below_step HB2.out hS.1)
    clear hS B0
    go_wp2_with fail
    go_ret
    exact ⟨rfl, HBe.out⟩
end Go.Proofs.Ytogoolpgajopcaa
