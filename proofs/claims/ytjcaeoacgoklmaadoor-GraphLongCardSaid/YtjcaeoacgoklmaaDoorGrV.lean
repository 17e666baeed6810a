import Derived.Test.YtjcaeoacgoklmaaDoorGrU
import Derived.Carry
namespace Go.Proofs.YtjcaeoacgoklmaaDoor
open Go.RowKit
def refsAt (W : World) (refs : List ByteArray) (A : Option Addr) : Prop := (A = none → refs = []) ∧ (refs ≠ [] → ∃ b o, A = some ⟨b, o, none⟩ ∧ ∀ j a, refs[j]? = some a → W.cell? ⟨b, o + j, none⟩ = some (.string a))
theorem refsAt.later {W W' : World} {refs : List ByteArray} {A : Option Addr} (h : refsAt W refs A) (hb : Below W.heap.size W W') : refsAt W' refs A :=
  ⟨h.1, fun hn => by
    obtain ⟨b, o, h1, h2⟩ := h.2 hn
    exact ⟨b, o, h1, fun j a hj => cell_keepG hb (h2 j a hj)⟩⟩
/-- A rule as it lies. -/
structure RuleAt (W : World) (b o : Nat) (r : Rule) (A : Option Addr) (c : Nat) : Prop where
  name : W.cell? ⟨b, o, none⟩ = some (.string r.name)
  kind : W.cell? ⟨b, o + 1, none⟩ = some (.int .i64 r.kind)
  refs : W.cell? ⟨b, o + 2, none⟩ = some (.slice A r.refs.length c)
  text : W.cell? ⟨b, o + 3, none⟩ = some (.string r.text)
  at_ : refsAt W r.refs A
theorem RuleAt.later {W W' : World} {b o : Nat} {r : Rule} {A : Option Addr} {c : Nat} (h : RuleAt W b o r A c) (hb : Below W.heap.size W W') : RuleAt W' b o r A c :=
  ⟨cell_keepG hb h.name, cell_keepG hb h.kind, cell_keepG hb h.refs, cell_keepG hb h.text, h.at_.later hb⟩
theorem clone_refs (refs : List ByteArray) (A : Option Addr) (c : Nat) (w : World) (h : refsAt w refs A) (hl : refs.length ≤ 100000) :
    Calls Tryd.prog 14 #[.slice A refs.length c] w fun e w' => ∃ A' c', e = .returned (.slice A' refs.length c') ∧ Below w.heap.size w w' ∧ ∃ rb ro, (0 < refs.length → w.heap.size ≤ rb ∧ rb < w'.heap.size) ∧ ∀ j a, refs[j]? = some a → A' = some ⟨rb, ro, none⟩ ∧ w'.cell? ⟨rb, ro + j, none⟩ = some (.string a) := by
  by_cases hn : refs = []
  · subst hn
    cases A with
    | none =>
      refine (Tryd.slices_Clone_string_nil 0 c w).mono ?_
      rintro e w' ⟨rfl, rfl⟩
      exact ⟨none, 0, rfl, Below.refl _ _, 0, 0, fun h => absurd h (by simp), fun j a hj => by simp at hj⟩
    | some ad =>
      refine (Tryd.slices_Clone_string_zero ad c w).mono ?_
      rintro e w' ⟨v, rfl, ho, _, hb⟩
      obtain ⟨A', c', hv, _⟩ := own_slice ho
      exact ⟨A', c', by rw [hv]; rfl, hb, 0, 0, fun h => absurd h (by simp), fun j a hj => by simp at hj⟩
  · obtain ⟨b, o, rfl, hc⟩ := h.2 hn
    refine (Tryd.slices_Clone_string b o refs.length c refs w (Nat.le_refl _) (by omega) (fun j hj => ?_)).mono ?_
    · have := hc j _ (List.getElem?_eq_getElem hj)
      rw [this, List.getD_eq_getElem?_getD, List.getElem?_eq_getElem hj]
      rfl
    rintro e w' ⟨v, rfl, ho, hne, hb⟩
    rw [List.take_length] at ho
    rcases ho.2 with ⟨hv, _⟩ | ⟨g, cap, cur, hv, hg, hgb, _⟩
    · exact absurd hv hne
    · subst hv
      refine ⟨_, _, rfl, hb, g, 0, fun _ => ⟨hg, blk_lt hgb⟩, fun j a hj => ⟨rfl, ?_⟩⟩
      have := ho.cells (g := g) rfl j (.string a) (by rw [List.getElem?_map, hj]; rfl)
      rw [add0] at this
      rw [Nat.zero_add]
      exact this
theorem right_any (r : Rule) (A : Option Addr) (c : Nat) (w : World) :
    Calls Tryd.prog 13 #[.agg #[.string r.name, .int .i64 r.kind, .slice A r.refs.length c, .string r.text]] w fun e w' => (∃ b : Bool, (b = true ↔ okR r) ∧ e = .returned (.bool b)) ∧ Below w.heap.size w w' := by
  have HB := Lib.hid ((Below.refl w.heap.size w).alloc (Nat.le_refl _) (.cells #[.string r.name, .int .i64 r.kind, .slice A r.refs.length c, .string r.text] 26))
  have k1 : (r.kind == 1) = decide (r.kind = 1) := by rw [Bool.eq_iff_iff]; simp
  by_cases h1 : r.kind = 1
  · have t1 : (r.kind == 1) = true := by simpa using h1
    have HK := Lib.hid h1
    clear h1 k1
    go_enter Tryd.func13, Tryd.ntmps13
    go_wp2_with fail
    go_ret
    exact ⟨⟨true, by simp [okR, HK.out], rfl⟩, HB.out⟩
  have t1 : (r.kind == 1) = false := by simpa using h1
  by_cases h2 : r.kind = 2
  · have t2 : (r.kind == 2) = true := by simpa using h2
    have HK := Lib.hid h2
    clear h1 h2 k1
    go_enter Tryd.func13, Tryd.ntmps13
    go_wp2_with fail
    go_ret
    exact ⟨⟨_, by simp [okR, HK.out]; omega, rfl⟩, HB.out⟩
  have t2 : (r.kind == 2) = false := by simpa using h2
  by_cases h3 : r.kind = 3
  · have t3 : (r.kind == 3) = true := by simpa using h3
    have HK := Lib.hid h3
    clear h1 h2 h3 k1
    go_enter Tryd.func13, Tryd.ntmps13
    go_wp2_with fail
    go_ret
    exact ⟨⟨_, by simp [okR, HK.out]; omega, rfl⟩, HB.out⟩
  have t3 : (r.kind == 3) = false := by simpa using h3
  by_cases h4 : r.kind = 4
  · have t4 : (r.kind == 4) = true := by simpa using h4
    have HK := Lib.hid h4
    clear h1 h2 h3 h4 k1
    go_enter Tryd.func13, Tryd.ntmps13
    go_wp2_with fail
    go_ret
    exact ⟨⟨_, by simp [okR, HK.out]; omega, rfl⟩, HB.out⟩
  · have t4 : (r.kind == 4) = false := by simpa using h4
    have HK := Lib.hid (And.intro h1 (And.intro h2 (And.intro h3 h4)))
    clear h1 h2 h3 h4 k1
    go_enter Tryd.func13, Tryd.ntmps13
    go_wp2_with fail
    go_ret
    exact ⟨⟨false, by simp [okR, HK.out.1, HK.out.2.1, HK.out.2.2.1, HK.out.2.2.2], rfl⟩, HB.out⟩
end Go.Proofs.YtjcaeoacgoklmaaDoor
