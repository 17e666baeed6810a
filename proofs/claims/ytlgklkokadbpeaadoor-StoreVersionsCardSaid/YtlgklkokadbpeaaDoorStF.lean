import Derived.Test.YtlgklkokadbpeaaDoorStE
namespace Go.Proofs.YtlgklkokadbpeaaDoor
open Go.RowKit Go.Maps Go.ChangeMaps
/-- One step of the counter. -/
theorem count_any (W : World) (b : Nat) (n : Int) (h0 : W.cell? ⟨b, 0, none⟩ = some (.int .i64 n)) (hf : W.frozen? ⟨b, 0, none⟩ = false) (hn : 0 ≤ n) (hm : n ≤ 1000000000000000) :
    Calls Tryd.prog 48 #[.pointer (some ⟨b, 0, none⟩)] W fun e w' => e = .returned (.int .i64 (n + 1)) ∧ w' = W.setCell ⟨b, 0, none⟩ (.int .i64 (n + 1)) := by
  go_enter Tryd.func48, Tryd.ntmps48
  go_wp2
  go_ret
  exact ⟨rfl, rfl⟩
/-- Files without a name. -/
def without (L : List Fi) (s : ByteArray) : List Fi := L.filter fun f => !(lk f.n).sameKey (lk s)
theorem del_dat (L : List Fi) (s : ByteArray) : (dat L).del (lk s) = dat (without L s) := by
  unfold dat without DataW.del
  simp only [DataW.map.injEq]
  induction L with
  | nil => rfl
  | cons f L ih =>
    rw [List.map_cons, List.filter_cons, List.filter_cons]
    cases h : (!(lk f.n).sameKey (lk s)) with
    | true => simpa using ih
    | false => simpa using ih
theorem without_len (L : List Fi) (s : ByteArray) : (without L s).length ≤ L.length := List.length_filter_le _ _
theorem St.count {W : World} {B : Nat → Prop} {b : Nat} {L : List Fi} {n : Int} (h : St W B b L n) (m : Int) : St (W.setCell ⟨b, 0, none⟩ (.int .i64 m)) B b L m ∧ Kp B W (W.setCell ⟨b, 0, none⟩ (.int .i64 m)) := by
  refine ⟨⟨World.cell?_setCell_same _ _ _ h.c0, ?_, fun k => by rw [World.frozen?_setCell]; exact h.fz k, h.ge⟩, (Kp.refl _ _).setCell h.ge _⟩
  have h1 : (W.setCell ⟨b, 0, none⟩ (.int .i64 m)).cell? ⟨b, 1, none⟩ = W.cell? ⟨b, 1, none⟩ := World.cell?_setCell_other _ _ _ _ (by simp)
  rcases h.c1 with ⟨h2, h3⟩ | ⟨R, h2, h3, h4, h5⟩
  · exact .inl ⟨h1.trans h2, h3⟩
  · exact .inr ⟨R, h1.trans h2, h3.setCell h5 _, h4, h5⟩
/-- The entries of the map have turned, and nothing else. -/
theorem turned_cell {w w' : World} {R : Nat} (h : w.mapTurned w' R) {b : Nat} (hb : b ≠ R) (j : Nat) : w'.cell? ⟨b, j, none⟩ = w.cell? ⟨b, j, none⟩ ∧ w'.frozen? ⟨b, j, none⟩ = w.frozen? ⟨b, j, none⟩ := by
  obtain ⟨es, clock, es', clock', h1, rfl⟩ := h
  have e : (setBlock w R (.map es' clock')).heap[b]? = w.heap[b]? := heap_setBlock_other h1 _ hb
  exact ⟨World.cell?_of_block (a := ⟨b, j, none⟩) e, World.frozen?_of_block (a := ⟨b, j, none⟩) e⟩
theorem turned_below {w w' : World} {R : Nat} {B : Nat → Prop} (h : w.mapTurned w' R) (hB : ¬ B R) : Kp B w w' := by
  obtain ⟨es, clock, es', clock', h1, rfl⟩ := h
  exact ⟨rfl, rfl, rfl, by simp [setBlock], fun k hk _ => heap_setBlock_other h1 _ (fun e => hB (e ▸ hk))⟩
theorem sizes_eq {W : World} {R n : Nat} {L : List Fi} (h : W.ownsMap Tryd.prog 9 fileR R n (dat L)) : W.ownsMap Tryd.prog 9 fileR R L.length (dat L) := by
  have := own_size h
  rwa [size_dat] at this
theorem St.there {W : World} {B : Nat → Prop} {b : Nat} {L : List Fi} {n : Int} (h : St W B b L n) (hL : L ≠ []) : ∃ R, W.cell? ⟨b, 1, none⟩ = some (.map (some R)) ∧ W.ownsMap Tryd.prog 9 fileR R L.length (dat L) ∧ ¬ B R ∧ R ≠ b := by
  rcases h.c1 with ⟨_, e⟩ | h1
  · exact absurd e hL
  · exact h1
theorem St.turned {X w2 : World} {B : Nat → Prop} {b : Nat} {L L' : List Fi} {n : Int} (h : St X B b L n) {R k : Nat} (hc : X.cell? ⟨b, 1, none⟩ = some (.map (some R))) (hBR : ¬ B R) (hRb : R ≠ b) (ho : w2.ownsMap Tryd.prog 9 fileR R k (dat L')) (ht : X.mapTurned w2 R) : St w2 B b L' n ∧ Kp B X w2 := by
  have hbR : b ≠ R := fun e => hRb e.symm
  exact ⟨⟨(turned_cell ht hbR 0).1.trans h.c0, .inr ⟨R, (turned_cell ht hbR 1).1.trans hc, sizes_eq ho, hBR, hRb⟩, fun j => (turned_cell ht hbR j).2.trans (h.fz j), h.ge⟩, turned_below ht hBR⟩
set_option maxRecDepth 100000 in
set_option maxHeartbeats 2000000 in
/-- Drop: the file of the name is taken away, if there is one. -/
theorem drop_any {W : World} {B : Nat → Prop} {b : Nat} {L : List Fi} {n : Int} (h : St W B b L n) (s : ByteArray) (hs : s.size ≤ maxLen) (hn : 0 ≤ n) (hm : n ≤ 1000000000000000) :
    Calls Tryd.prog 27 #[.pointer (some ⟨b, 0, none⟩), .string s] W fun e w' => e = .returned (.int .i64 (if (find L s).isSome then 0 else 3)) ∧ St w' B b (if (find L s).isSome then without L s else L) (if (find L s).isSome then n + 1 else n) ∧ Kp B W w' := by
  have KG := Lib.hid (get_any h s hs)
  have HS := Lib.hid h
  cases hf : find L s with
  | none =>
    rw [hf] at KG
    simp only [Option.getD_none, Option.isSome_none, zeroF, Fi.val, Bool.false_eq_true, if_false] at KG ⊢
    clear h hf
    go_enter Tryd.func27, Tryd.ntmps27
    go_wp2_with fail
    refine KG.out.mono ?_
    rintro e w1 ⟨rfl, hb1⟩
    have H1 := Lib.hid (HS.out.later hb1)
    have HB1 := Lib.hid (kp_of hb1 : Kp B W w1)
    clear hb1
    go_wp2_with fail
    go_ret
    exact ⟨rfl, H1.out.later ((Below.refl _ _).alloc (Nat.le_refl _) _), HB1.out.alloc _⟩
  | some f =>
    rw [hf] at KG
    simp only [Option.getD_some, Option.isSome_some, Fi.val, if_true] at KG ⊢
    obtain ⟨fn, ft, fv⟩ := f
    simp only at KG ⊢
    have HL : Hid (L ≠ []) := Lib.hid (by rintro rfl; cases hf)
    clear h hf
    go_enter Tryd.func27, Tryd.ntmps27
    go_wp2_with fail
    refine KG.out.mono ?_
    rintro e w1 ⟨rfl, hb1⟩
    have H1 := Lib.hid (HS.out.later hb1)
    have HB1 := Lib.hid (kp_of hb1 : Kp B W w1)
    have H2 := Lib.hid (H1.out.later ((Below.refl _ _).alloc (Nat.le_refl _) (.cells #[.string fn, .string ft, .int .i64 fv] 45)))
    have HB2 := Lib.hid (HB1.out.alloc (.cells #[.string fn, .string ft, .int .i64 fv] 45))
    clear hb1 KG
    obtain ⟨R, hc, hown, hBR, hRb⟩ := H2.out.there HL.out
    have HO := Lib.hid hown
    have HC := Lib.hid hc
    have HKey := Lib.hid (key_of s hs)
    clear hown HL
    go_wp2_with (first
      | (at_delete; refine wpList_delete_own _ rfl _ _ 50 9 rfl 45 (string_keyed Tryd.underlying9) Tryd.underlying50 fileR R L.length (dat L) rfl HO.out (.string s) (lk s) rfl HKey.out ?_; intro w3 hown3 hturn3; rw [del_dat] at hown3; have H3 := Lib.hid (H2.out.turned HC.out hBR hRb hown3 hturn3); have z0 := H3.out.1.c0; have zf := H3.out.1.fz 0; clear hown3 hturn3 hc)
      | (go_at_call 48; refine (count_any _ _ n (by assumption) (by assumption) hn hm).mono ?_; rintro e w4 ⟨rfl, rfl⟩))
    go_ret
    have H4 := H3.out.1.count (n + 1)
    exact ⟨rfl, H4.1, HB2.out.trans (H3.out.2.trans H4.2)⟩
end Go.Proofs.YtlgklkokadbpeaaDoor
