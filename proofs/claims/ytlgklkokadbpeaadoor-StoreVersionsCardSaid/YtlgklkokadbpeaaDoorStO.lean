import Derived.Test.YtlgklkokadbpeaaDoorStM
import Derived.WalkLawsBesides
namespace Go.Proofs.YtlgklkokadbpeaaDoor
open Go.RowKit Go.Maps Go.ChangeMaps Go.Sort
theorem flat3_at : ∀ (L : List Fi) (j x : Nat) (f : Fi), L[j]? = some f → x < 3 → (flat3 L)[j * 3 + x]? = (cells3 f)[x]?
  | [], j, _, _, h, _ => by simp at h
  | g :: L, 0, x, f, h, hx => by
    obtain rfl : g = f := by simpa using h
    rw [flat3, Nat.zero_mul, Nat.zero_add, List.getElem?_append_left (by simpa [cells3] using hx)]
  | g :: L, j + 1, x, f, h, hx => by
    have h' : L[j]? = some f := by simpa using h
    rw [flat3, List.getElem?_append_right (by simp [cells3]; omega), show (j + 1) * 3 + x - (cells3 g).length = j * 3 + x by simp [cells3]; omega]
    exact flat3_at L j x f h' hx
/-- The reference's store at b: its list of files L, its number n. -/
structure RSt (W : World) (B b : Nat) (A : Option Addr) (c : Nat) (L : List Fi) (n : Int) : Prop where
  c0 : W.cell? ⟨b, 0, none⟩ = some (.slice A L.length c)
  c1 : W.cell? ⟨b, 1, none⟩ = some (.int .i64 n)
  own : W.ownsRow (b + 1) 45 3 (.slice A L.length c) L.length (flat3 L)
  fz : ∀ k, W.frozen? ⟨b, k, none⟩ = false
  ge : B ≤ b
theorem RSt.at {W : World} {B b : Nat} {A : Option Addr} {c : Nat} {L : List Fi} {n : Int} (h : RSt W B b A c L n) {j : Nat} {f : Fi} (hj : L[j]? = some f) : ∃ g, A = some ⟨g, 0, none⟩ ∧ g < W.heap.size ∧ W.cell? ⟨g, j * 3, none⟩ = some (.string f.n) ∧ W.cell? ⟨g, j * 3 + 1, none⟩ = some (.string f.t) ∧ W.cell? ⟨g, j * 3 + 2, none⟩ = some (.int .i64 f.v) := by
  have hlt : j < L.length := (List.getElem?_eq_some_iff.1 hj).1
  obtain ⟨g, rfl⟩ : ∃ g, A = some ⟨g, 0, none⟩ := by
    rcases h.own.2 with ⟨_, h2⟩ | ⟨g, cap, cur, h, _⟩
    · omega
    · exact ⟨g, by injection h⟩
  refine ⟨g, rfl, (h.own.lt g rfl).2, ?_, ?_, ?_⟩
  · rw [h.own.cellAt (j * 3) (by omega)]; exact flat3_at L j 0 f hj (by omega)
  · rw [h.own.cellAt (j * 3 + 1) (by omega)]; exact flat3_at L j 1 f hj (by omega)
  · rw [h.own.cellAt (j * 3 + 2) (by omega)]; exact flat3_at L j 2 f hj (by omega)
def eqB (f : Fi) (s : ByteArray) : Bool := f.n.toList == s.toList
def gtB (f : Fi) (s : ByteArray) : Bool := !(Op.bytesLess f.n.toList s.toList || f.n.toList == s.toList)
/-- Where a name stands, or would stand. -/
def fp : List Fi → ByteArray → Nat → Nat × Bool
  | [], _, i => (i, false)
  | f :: r, s, i => if eqB f s = true then (i, true) else if gtB f s = true then (i, false) else fp r s (i + 1)
theorem RSt.add {W : World} {B b : Nat} {A : Option Addr} {c : Nat} {L : List Fi} {n : Int} (h : RSt W B b A c L n) {j : Nat} {f : Fi} (hj : L[j]? = some f) : ∃ ad : Addr, A = some ad ∧ W.cell? (ad.add (j * 3)) = some (.string f.n) := by
  obtain ⟨g, rfl, _, h0, _, _⟩ := h.at hj
  refine ⟨⟨g, 0, none⟩, rfl, ?_⟩
  rw [show ((⟨g, 0, none⟩ : Addr).add (j * 3)) = ⟨g, j * 3, none⟩ by unfold Addr.add; by_cases h : j * 3 = 0 <;> simp [h]]
  exact h0
set_option maxRecDepth 100000 in
set_option maxHeartbeats 2000000 in
theorem rfind_any {W : World} {B b : Nat} {A : Option Addr} {c : Nat} {L : List Fi} {n : Int} (h : RSt W B b A c L n) (hL : L.length ≤ 1000) (s : ByteArray) :
    Calls Tryd.prog 50 #[.pointer (some ⟨b, 0, none⟩), .string s] W fun e w' => e = .returned (.tuple #[.int .i64 ((fp L s 0).1 : Nat), .bool (fp L s 0).2]) ∧ W = w' := by
  have HM := Lib.hid h
  have c0 := h.c0
  clear h
  go_enter Tryd.func50, Tryd.ntmps50
  go_wp2_with fail
  go_loop [6] (fun v => ∃ j : Nat, j ≤ L.length ∧ v = .int .i64 j ∧ fp (L.drop j) s j = fp L s 0) (fun v => L.length - (intOf v).toNat)
  case atStart => exact ⟨0, by omega, rfl, by rw [List.drop_zero]⟩
  case round =>
    obtain ⟨j, hj, rfl, hr⟩ := hrel
    have HR := Lib.hid hr
    clear hr
    by_cases hlt : j < L.length
    case neg =>
      have hd : L.drop j = [] := List.drop_eq_nil_of_le (by omega)
      have HE : Hid (((j : Nat), false) = fp L s 0) := Lib.hid (by rw [← HR.out, hd]; rfl)
      obtain rfl : j = L.length := by omega
      have tj : decide ((L.length : Int) < (L.length : Int)) = false := by simp
      clear hd hlt HR
      go_wp2_with fail
      go_ret2
      exact ⟨by rw [← HE.out] <;> rfl, rfl⟩
    obtain ⟨f, hf⟩ : ∃ f, L[j]? = some f := ⟨L[j], by simp [hlt]⟩
    have hd : L.drop j = f :: L.drop (j + 1) := by
      rw [List.drop_eq_getElem_cons hlt]
      rw [List.getElem?_eq_getElem hlt] at hf
      injection hf with hf
      rw [hf]
    obtain ⟨ad, rfl, hc⟩ := HM.out.add hf
    rw [hd, fp] at HR
    have tj : decide ((j : Int) < (L.length : Int)) = true := by simp; omega
    clear hf hd
    cases he : eqB f s with
    | true =>
      rw [if_pos he] at HR
      unfold eqB at he
      go_wp2_with fail
      go_ret2
      exact ⟨by rw [← HR.out] <;> rfl, rfl⟩
    | false =>
    rw [if_neg (by rw [he]; simp)] at HR
    cases hg : gtB f s with
    | true =>
      rw [if_pos hg] at HR
      unfold eqB at he
      unfold gtB at hg
      have hb : Op.bytesLess f.n.toList s.toList = false := by rw [he] at hg; simpa using hg
      clear hg
      go_wp2_with fail
      go_ret2
      exact ⟨by rw [← HR.out] <;> rfl, rfl⟩
    | false =>
      rw [if_neg (by rw [hg]; simp)] at HR
      unfold eqB at he
      unfold gtB at hg
      have hb : Op.bytesLess f.n.toList s.toList = true := by rw [he] at hg; simpa using hg
      clear hg
      go_wp2_with fail
      go_round
      case rel => exact ⟨j + 1, by omega, by go_num, HR.out⟩
      case measure => simp [intOf]; omega
end Go.Proofs.YtlgklkokadbpeaaDoor
