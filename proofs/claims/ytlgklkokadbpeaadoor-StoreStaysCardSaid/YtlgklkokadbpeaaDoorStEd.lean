import Derived.Test.YtlgklkokadbpeaaDoorStRd
import Derived.Test.YtlgklkokadbpeaaDoorStAn
namespace Go.Proofs.YtlgklkokadbpeaaDoor
open Go.RowKit Go.Maps Go.ChangeMaps Go.Sort
/-- A slice of edits that came in, and what they are. -/
def EA (w : World) (A : Option Addr) (n d : Nat) (xs : List EditD) : Prop :=
  xs.length = n ∧ (∀ x ∈ xs, x.Text.size ≤ 1000000000000000) ∧ (n = 0 ∨ ∃ b off, A = some ⟨b, off, none⟩ ∧ n ≤ d ∧ b < w.heap.size ∧ EditsAt w b off xs)
theorem EA.later {w w' : World} {A : Option Addr} {n d : Nat} {xs : List EditD} (h : EA w A n d xs) (hb : Go.RowKit.Below w.heap.size w w') : EA w' A n d xs := by
  obtain ⟨h1, h2, h3⟩ := h
  refine ⟨h1, h2, ?_⟩
  rcases h3 with h3 | ⟨b, off, h4, h5, h6, hx⟩
  · exact .inl h3
  · exact .inr ⟨b, off, h4, h5, Nat.lt_of_lt_of_le h6 hb.size, fun i hi => ⟨(hb.cell (p := ⟨b, off + i * 3, none⟩) h6).trans (hx i hi).1, (hb.cell (p := ⟨b, off + i * 3 + 1, none⟩) h6).trans (hx i hi).2.1, (hb.cell (p := ⟨b, off + i * 3 + 2, none⟩) h6).trans (hx i hi).2.2⟩⟩
theorem EA.prog {w : World} {A : Option Addr} {n d : Nat} {xs : List EditD} (h : EA w A n d xs) (hn : n ≤ 1000000) (s : ByteArray) (hs : s.size ≤ 1000000) :
    Calls Tryd.prog 51 #[.string s, .slice A n d] w fun e w' => e = .returned (.tuple #[.string (applyE s xs).1, .int .i64 (applyE s xs).2]) ∧ Go.RowKit.Below w.heap.size w w' := by
  obtain ⟨h1, h2, h3⟩ := h
  rcases h3 with rfl | ⟨b, off, rfl, h5, h6, hx⟩
  · obtain rfl : xs = [] := List.eq_nil_of_length_eq_zero h1
    exact apply_prog_nil s A d w
  · exact apply_prog s b off n d xs w hs h1 h5 hn h6 hx h2
theorem EA.ref {w : World} {A : Option Addr} {n d : Nat} {xs : List EditD} (h : EA w A n d xs) (hn : n ≤ 1000000) (s : ByteArray) (hs : s.size ≤ 1000000) :
    Calls Tryd.prog 62 #[.string s, .slice A n d] w fun e w' => e = .returned (.tuple #[.string (applyE s xs).1, .int .i64 (applyE s xs).2]) ∧ Go.RowKit.Below w.heap.size w w' := by
  obtain ⟨h1, h2, h3⟩ := h
  rcases h3 with rfl | ⟨b, off, rfl, h5, h6, hx⟩
  · obtain rfl : xs = [] := List.eq_nil_of_length_eq_zero h1
    exact apply_ref_nil s A d w
  · exact apply_ref s b off n d xs w hs h1 h5 hn h6 hx h2
/-- What an Edit answers, and what it leaves. -/
def editE (L : List Fi) (s : ByteArray) (xs : List EditD) : Int := match find L s with
  | none => 3
  | some f => if (applyE f.t xs).2 = 0 then putE L s (applyE f.t xs).1 else (applyE f.t xs).2
def editL (L : List Fi) (n : Int) (s : ByteArray) (xs : List EditD) : List Fi := match find L s with
  | none => L
  | some f => if (applyE f.t xs).2 = 0 then afterL L n s (applyE f.t xs).1 else L
def editN (L : List Fi) (n : Int) (s : ByteArray) (xs : List EditD) : Int := match find L s with
  | none => n
  | some f => if (applyE f.t xs).2 = 0 then afterN L n s (applyE f.t xs).1 else n
set_option maxRecDepth 100000 in
set_option maxHeartbeats 1000000 in
theorem edit_none {W : World} {B : Nat → Prop} {b : Nat} {L : List Fi} {n : Int} (h : St W B b L n) (s : ByteArray) (hs : s.size ≤ maxLen) (v : Value) (hf : find L s = none) :
    Calls Tryd.prog 26 #[.pointer (some ⟨b, 0, none⟩), .string s, v] W fun e w' => e = .returned (.int .i64 3) ∧ Go.RowKit.Below W.heap.size W w' := by
  have KG := Lib.hid (get_any h s hs)
  rw [hf] at KG
  simp only [Option.getD_none, Option.isSome_none, zeroF, Fi.val, Bool.false_eq_true, if_false] at KG
  clear h hf
  go_enter Tryd.func26, Tryd.ntmps26
  go_wp2_with (go_at_call 28; refine KG.out.mono ?_; rintro e w1 ⟨rfl, hb1⟩)
  go_ret
  exact ⟨rfl, hb1.alloc hb1.size _⟩
set_option maxRecDepth 100000 in
set_option maxHeartbeats 1000000 in
theorem edit_bad {W : World} {B : Nat → Prop} {b : Nat} {L : List Fi} {n : Int} (h : St W B b L n) (s : ByteArray) (hs : s.size ≤ maxLen) {A : Option Addr} {m d : Nat} {xs : List EditD} (hE : EA W A m d xs) (hm : m ≤ 1000000) {f : Fi} (hf : find L s = some f) (ht : f.t.size ≤ 1000000) (he : (applyE f.t xs).2 ≠ 0) :
    Calls Tryd.prog 26 #[.pointer (some ⟨b, 0, none⟩), .string s, .slice A m d] W fun e w' => e = .returned (.int .i64 (applyE f.t xs).2) ∧ Go.RowKit.Below W.heap.size W w' := by
  have KG := Lib.hid (get_any h s hs)
  rw [hf] at KG
  have KA := Lib.hid (fun w (hw : Go.RowKit.Below W.heap.size W w) => (hE.later hw).prog hm f.t ht)
  obtain ⟨fn, ft, fv⟩ := f
  simp only [Option.getD_some, Option.isSome_some, Fi.val, if_true] at KG
  simp only at KA he ht ⊢
  have te : ((applyE ft xs).2 != 0) = true := by simpa using he
  generalize (applyE ft xs).2 = e2 at *
  generalize (applyE ft xs).1 = r at *
  clear h hf he hE
  go_enter Tryd.func26, Tryd.ntmps26
  go_wp2_with (first
    | (go_at_call 28; refine KG.out.mono ?_; rintro e w1 ⟨rfl, hb1⟩)
    | (go_at_call 51; refine (KA.out _ (hb1.alloc hb1.size _)).mono ?_; rintro e w2 ⟨rfl, hb2⟩))
  go_ret
  exact ⟨rfl, (hb1.alloc hb1.size _).trans (hb2.mono (by have := hb1.size; simp; omega))⟩
set_option maxRecDepth 100000 in
set_option maxHeartbeats 1000000 in
theorem edit_ok {W : World} {B : Nat → Prop} {b : Nat} {L : List Fi} {n : Int} (h : St W B b L n) (hT : Lib.Utf8Tabs 0 1 W) (s : ByteArray) (hs : s.size ≤ 1000000000000000) {A : Option Addr} {m d : Nat} {xs : List EditD} (hE : EA W A m d xs) (hm : m ≤ 1000000) {f : Fi} (hf : find L s = some f) (ht : f.t.size ≤ 1000000) (he : (applyE f.t xs).2 = 0) (hB : ∀ k, B k → k < W.heap.size) (hL : L.length ≤ 64) (hn : 0 ≤ n) (hn2 : n ≤ 1000000000000000) :
    Calls Tryd.prog 26 #[.pointer (some ⟨b, 0, none⟩), .string s, .slice A m d] W fun e w' => e = .returned (.int .i64 (putE L s (applyE f.t xs).1)) ∧ St w' B b (afterL L n s (applyE f.t xs).1) (afterN L n s (applyE f.t xs).1) ∧ Kp B W w' := by
  have KG := Lib.hid (get_any h s (Nat.le_trans hs (by unfold maxLen; decide)))
  rw [hf] at KG
  have KA := Lib.hid (fun w (hw : Go.RowKit.Below W.heap.size W w) => (hE.later hw).prog hm f.t ht)
  have KP := Lib.hid (fun w (hw : Go.RowKit.Below W.heap.size W w) => put_any (h.later hw) (tabs_below hT hw) s (applyE f.t xs).1 hs (fun k hk => Nat.lt_of_lt_of_le (hB k hk) hw.size) hL hn hn2)
  obtain ⟨fn, ft, fv⟩ := f
  simp only [Option.getD_some, Option.isSome_some, Fi.val, if_true] at KG
  simp only at KA he ht ⊢
  rw [he] at KA
  generalize (applyE ft xs).1 = r at *
  clear h hf he hE hT hB
  go_enter Tryd.func26, Tryd.ntmps26
  go_wp2_with (first
    | (go_at_call 28; refine KG.out.mono ?_; rintro e w1 ⟨rfl, hb1⟩; have hb1' := hb1.alloc hb1.size (.cells #[.string fn, .string ft, .int .i64 fv] 45))
    | (go_at_call 51; refine (KA.out _ hb1').mono ?_; rintro e w2 ⟨rfl, hb2⟩; have HB2 := Lib.hid (hb1'.trans (hb2.mono (by have := hb1.size; simp; omega))))
    | (go_at_call 24; refine (KP.out _ HB2.out).mono ?_; rintro e w3 ⟨rfl, hst, hk⟩))
  go_ret
  exact ⟨rfl, hst, (kp_of HB2.out).trans hk⟩
set_option maxRecDepth 100000 in
set_option maxHeartbeats 1000000 in
theorem redit_none {W : World} {B b : Nat} {A : Option Addr} {c : Nat} {L : List Fi} {n : Int} (h : RSt W B b A c L n) (s : ByteArray) (v : Value) {j : Nat} (hf : fp L s 0 = (j, false)) (hL : L.length ≤ 1000) :
    Calls Tryd.prog 40 #[.pointer (some ⟨b, 0, none⟩), .string s, v] W fun e w' => e = .returned (.int .i64 3) ∧ W = w' := by
  have KF := Lib.hid (rfind_any h hL s)
  rw [hf] at KF
  clear h hf
  go_enter Tryd.func40, Tryd.ntmps40
  go_wp2_with (go_at_call 50; refine KF.out.mono ?_; rintro e w0 ⟨rfl, rfl⟩)
  go_ret
  exact ⟨rfl, rfl⟩
set_option maxRecDepth 100000 in
set_option maxHeartbeats 1000000 in
theorem redit_bad {W : World} {B b : Nat} {A0 : Option Addr} {c : Nat} {L : List Fi} {n : Int} (h : RSt W B b A0 c L n) (s : ByteArray) {A : Option Addr} {m d : Nat} {xs : List EditD} (hE : EA W A m d xs) (hm : m ≤ 1000000) {f : Fi} {j : Nat} (hj : L[j]? = some f) (hf : fp L s 0 = (j, true)) (ht : f.t.size ≤ 1000000) (hL : L.length ≤ 1000) (he : (applyE f.t xs).2 ≠ 0) :
    Calls Tryd.prog 40 #[.pointer (some ⟨b, 0, none⟩), .string s, .slice A m d] W fun e w' => e = .returned (.int .i64 (applyE f.t xs).2) ∧ Go.RowKit.Below W.heap.size W w' := by
  have KF := Lib.hid (rfind_any h hL s)
  rw [hf] at KF
  have c0 := h.c0
  obtain ⟨ad, rfl, g0, g1, g2⟩ := h.add3 hj
  have hjl : j < L.length := (List.getElem?_eq_some_iff.1 hj).1
  have KA := Lib.hid (hE.ref hm f.t ht)
  obtain ⟨fn, ft, fv⟩ := f
  simp only at g0 g1 g2 KA he ht ⊢
  have te : ((applyE ft xs).2 != 0) = true := by simpa using he
  generalize (applyE ft xs).2 = e2 at *
  generalize (applyE ft xs).1 = r at *
  have tl : decide ((j : Int) < (L.length : Int)) = true := by simp; omega
  clear h hf he hE hj
  go_enter Tryd.func40, Tryd.ntmps40
  go_wp2_with (first
    | (go_at_call 50; refine KF.out.mono ?_; rintro e w0 ⟨rfl, rfl⟩)
    | (go_at_call 62; refine KA.out.mono ?_; rintro e w2 ⟨rfl, hb2⟩))
  go_ret
  exact ⟨rfl, hb2⟩
set_option maxRecDepth 100000 in
set_option maxHeartbeats 1000000 in
theorem redit_ok {W : World} {B b : Nat} {A0 : Option Addr} {c : Nat} {L : List Fi} {n : Int} (h : RSt W B b A0 c L n) (hR : Rise L) (s : ByteArray) (hs : s.size ≤ 1000000000000000) {A : Option Addr} {m d : Nat} {xs : List EditD} (hE : EA W A m d xs) (hm : m ≤ 1000000) {f : Fi} {j : Nat} (hj : L[j]? = some f) (hf : fp L s 0 = (j, true)) (ht : f.t.size ≤ 1000000) (hL : L.length ≤ 64) (he : (applyE f.t xs).2 = 0) (hn : 0 ≤ n) (hn2 : n ≤ 1000000000000000) :
    Calls Tryd.prog 40 #[.pointer (some ⟨b, 0, none⟩), .string s, .slice A m d] W fun e w' => e = .returned (.int .i64 (putE L s (applyE f.t xs).1)) ∧ (∃ A' c', RSt w' B b A' c' (afterL L n s (applyE f.t xs).1) (afterN L n s (applyE f.t xs).1)) ∧ Kp (fun k => k ≠ b) W w' := by
  have KF := Lib.hid (rfind_any h (by omega) s)
  rw [hf] at KF
  have c0 := h.c0
  obtain ⟨ad, rfl, g0, g1, g2⟩ := h.add3 hj
  have hjl : j < L.length := (List.getElem?_eq_some_iff.1 hj).1
  have KA := Lib.hid (hE.ref hm f.t ht)
  have KP := Lib.hid (fun w (hw : Go.RowKit.Below W.heap.size W w) => rput_any (h.later hw) hR s (applyE f.t xs).1 hs hL hn hn2)
  obtain ⟨fn, ft, fv⟩ := f
  simp only at g0 g1 g2 KA he ht ⊢
  rw [he] at KA
  generalize (applyE ft xs).1 = r at *
  have tl : decide ((j : Int) < (L.length : Int)) = true := by simp; omega
  clear h hf he hE hj hR
  go_enter Tryd.func40, Tryd.ntmps40
  go_wp2_with (first
    | (go_at_call 50; refine KF.out.mono ?_; rintro e w0 ⟨rfl, rfl⟩)
    | (go_at_call 62; refine KA.out.mono ?_; rintro e w2 ⟨rfl, hb2⟩)
    | (go_at_call 25; refine (KP.out _ hb2).mono ?_; rintro e w3 ⟨rfl, hst, hk⟩))
  go_ret
  exact ⟨rfl, hst, (kp_of hb2).trans hk⟩
end Go.Proofs.YtlgklkokadbpeaaDoor
