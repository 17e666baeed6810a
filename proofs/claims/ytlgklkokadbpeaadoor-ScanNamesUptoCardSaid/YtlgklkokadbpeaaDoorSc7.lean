import Derived.Test.YtlgklkokadbpeaaDoorSc6
namespace Go.Proofs.YtlgklkokadbpeaaDoor
open Go.RowKit

/-- A token. -/
structure Tok where
  kind : Nat
  text : ByteArray
  n : Nat
  at_ : Nat
  end_ : Nat
def Tok.cells (t : Tok) : List Value := [.int .i64 t.kind, .string t.text, .int .i64 t.n, .int .i64 t.at_, .int .i64 t.end_]
def Tok.val (t : Tok) : Value := .agg t.cells.toArray
/-- The box of a token that is not told yet. -/
def zeroTok : Obj := .cells #[.int .i64 0, .string ⟨#[]⟩, .int .i64 0, .int .i64 0, .int .i64 0] 63
theorem below_five {w w1 : World} (h : Below w.heap.size w w1) (v0 v1 v2 v3 v4 : Value) :
    Below w.heap.size w (((((w1.setCell ⟨w.heap.size, 0, none⟩ v0).setCell ⟨w.heap.size, 1, none⟩ v1).setCell ⟨w.heap.size, 2, none⟩ v2).setCell ⟨w.heap.size, 3, none⟩ v3).setCell ⟨w.heap.size, 4, none⟩ v4) :=
  ((((h.setCell (Nat.le_refl _) _).setCell (Nat.le_refl _) _).setCell (Nat.le_refl _) _).setCell (Nat.le_refl _) _).setCell (Nat.le_refl _) _
theorem below_box {w w1 : World} {o : Obj} (hb : Below (w.alloc o).heap.size (w.alloc o) w1) : Below w.heap.size w w1 := below_step ((Below.refl _ _).alloc (Nat.le_refl _) _) hb
theorem zero_cells {w w1 : World} (hb : Below (w.alloc zeroTok).heap.size (w.alloc zeroTok) w1) :
    w1.cell? ⟨w.heap.size, 0, none⟩ = some (.int .i64 0) ∧ w1.cell? ⟨w.heap.size, 1, none⟩ = some (.string ⟨#[]⟩) ∧ w1.cell? ⟨w.heap.size, 2, none⟩ = some (.int .i64 0) ∧ w1.cell? ⟨w.heap.size, 3, none⟩ = some (.int .i64 0) ∧ w1.cell? ⟨w.heap.size, 4, none⟩ = some (.int .i64 0) ∧
    (∀ k, w1.frozen? ⟨w.heap.size, k, none⟩ = false) ∧ w.heap.size + 1 ≤ w1.heap.size := by
  have hz : (w.alloc zeroTok).heap.size = w.heap.size + 1 := by simp
  have hc : ∀ k, w1.cell? ⟨w.heap.size, k, none⟩ = (w.alloc zeroTok).cell? ⟨w.heap.size, k, none⟩ := fun k => hb.cell (p := ⟨w.heap.size, k, none⟩) (by rw [hz]; show w.heap.size < _; omega)
  have hf : ∀ k, w1.frozen? ⟨w.heap.size, k, none⟩ = (w.alloc zeroTok).frozen? ⟨w.heap.size, k, none⟩ := fun k => hb.frozen (p := ⟨w.heap.size, k, none⟩) (by rw [hz]; show w.heap.size < _; omega)
  refine ⟨?_, ?_, ?_, ?_, ?_, fun k => ?_, by have := hb.size; omega⟩
  · rw [hc]; exact World.cell?_alloc_at _ _ _ _ rfl
  · rw [hc]; exact World.cell?_alloc_at _ _ _ _ rfl
  · rw [hc]; exact World.cell?_alloc_at _ _ _ _ rfl
  · rw [hc]; exact World.cell?_alloc_at _ _ _ _ rfl
  · rw [hc]; exact World.cell?_alloc_at _ _ _ _ rfl
  · rw [hf]; exact World.frozen?_alloc_at _ _ _ _ rfl

/-- A token that lies in a box, handed back. -/
theorem res_box {fn : Func} {tmps : Array Value} {W : World} {slot g : Nat} {v0 v1 v2 v3 v4 : Value} (hr : fn.results = #[.cell slot 63]) (hp : tmps.getD slot undef = .pointer (some ⟨g, 0, none⟩))
    (h0 : W.cell? ⟨g, 0, none⟩ = some v0) (h1 : W.cell? ⟨g, 1, none⟩ = some v1) (h2 : W.cell? ⟨g, 2, none⟩ = some v2) (h3 : W.cell? ⟨g, 3, none⟩ = some v3) (h4 : W.cell? ⟨g, 4, none⟩ = some v4) :
    (results fn tmps).run Tryd.prog W = .ok (.agg #[v0, v1, v2, v3, v4]) W := by
  have hp' : tmps[slot]?.getD undef = .pointer (some ⟨g, 0, none⟩) := by simpa using hp
  simp [results, hr, hp', go_sem, h0, h1, h2, h3, h4]
theorem five_cells {w2 : World} {g : Nat} {u0 u1 u2 u3 u4 : Value} (c0 : w2.cell? ⟨g, 0, none⟩ = some u0) (c1 : w2.cell? ⟨g, 1, none⟩ = some u1) (c2 : w2.cell? ⟨g, 2, none⟩ = some u2) (c3 : w2.cell? ⟨g, 3, none⟩ = some u3) (c4 : w2.cell? ⟨g, 4, none⟩ = some u4) (v0 v1 v2 v3 v4 : Value) (W : World)
    (hW : W = (((((w2.setCell ⟨g, 0, none⟩ v0).setCell ⟨g, 1, none⟩ v1).setCell ⟨g, 2, none⟩ v2).setCell ⟨g, 3, none⟩ v3).setCell ⟨g, 4, none⟩ v4)) :
    W.cell? ⟨g, 0, none⟩ = some v0 ∧ W.cell? ⟨g, 1, none⟩ = some v1 ∧ W.cell? ⟨g, 2, none⟩ = some v2 ∧ W.cell? ⟨g, 3, none⟩ = some v3 ∧ W.cell? ⟨g, 4, none⟩ = some v4 ∧ W.heap.size = w2.heap.size := by
  subst hW
  refine ⟨?_, ?_, ?_, ?_, ?_, by simp⟩ <;> go_simp

def pieceT (s : ByteArray) (kind i j : Nat) : Tok := ⟨kind, s.extract i j, 0, i, j⟩
theorem piece_prog (s : ByteArray) (kind i j : Nat) (w : World) (hij : i ≤ j) (hj : j ≤ s.size) :
    Calls Tryd.prog 75 #[.int .i64 kind, .string s, .int .i64 i, .int .i64 j] w fun e w' => e = .returned (pieceT s kind i j).val ∧ Below w.heap.size w w' := by
  go_enter Tryd.func75, Tryd.ntmps75
  go_wp2
  exact bodyPost_ret (v := (pieceT s kind i j).val) (by simp [results, Tryd.results75, go_sem, Tok.val, Tok.cells, pieceT]) rfl ⟨rfl, (Below.refl _ _).alloc (Nat.le_refl _) _⟩
def wordT (s : ByteArray) (i : Nat) : Tok := pieceT s (if resL (s.extract i (wordN s i)).toList = true then 5 else 1) i (wordN s i)

set_option maxHeartbeats 400000 in
theorem wordtok_prog (s : ByteArray) (i : Nat) (w : World) (hs : s.size ≤ 1000000000) (hi : i ≤ s.size) :
    Calls Tryd.prog 71 #[.string s, .int .i64 i] w fun e w' => e = .returned (wordT s i).val ∧ Below w.heap.size w w' := by
  have hw := word_le s i hi
  have KW := Lib.hid (word_prog s i (w.alloc zeroTok) (by omega) hi)
  cases hr : resL (s.extract i (wordN s i)).toList with
  | true =>
    have D := Lib.hid (show wordT s i = pieceT s 5 i (wordN s i) by rw [wordT, hr]; rfl)
    generalize wordN s i = j at *
    have KR := Lib.hid (reserved_prog (s.extract i j))
    rw [hr] at KR
    clear hr
    go_enter Tryd.func71, Tryd.ntmps71
    go_wp2_with fail
    refine KW.out.mono ?_
    rintro e w1 ⟨rfl, rfl⟩
    go_wp2_with fail
    refine (KR.out _).mono ?_
    rintro e w1 ⟨rfl, rfl⟩
    go_wp2_with fail
    refine (piece_prog s 5 i j (w.alloc zeroTok) hw.1 hw.2).mono ?_
    rintro e w1 ⟨rfl, hb⟩
    obtain ⟨c0, c1, c2, c3, c4, cf, cz⟩ := zero_cells hb
    simp only [Tok.val, Tok.cells, pieceT]
    go_wp2_with fail
    refine bodyPost_ret (v := (pieceT s 5 i j).val) (by simp [results, Tryd.results71, go_sem, Tok.val, Tok.cells, pieceT, c0, c1, c2, c3, c4]) rfl ?_; exact ⟨by rw [D.out], below_five (below_box hb) _ _ _ _ _⟩

  | false =>
    have D := Lib.hid (show wordT s i = pieceT s 1 i (wordN s i) by rw [wordT, hr]; rfl)
    generalize wordN s i = j at *
    have KR := Lib.hid (reserved_prog (s.extract i j))
    rw [hr] at KR
    clear hr
    go_enter Tryd.func71, Tryd.ntmps71
    go_wp2_with fail
    refine KW.out.mono ?_
    rintro e w1 ⟨rfl, rfl⟩
    go_wp2_with fail
    refine (KR.out _).mono ?_
    rintro e w1 ⟨rfl, rfl⟩
    go_wp2_with fail
    refine (piece_prog s 1 i j (w.alloc zeroTok) hw.1 hw.2).mono ?_
    rintro e w1 ⟨rfl, hb⟩
    obtain ⟨c0, c1, c2, c3, c4, cf, cz⟩ := zero_cells hb
    simp only [Tok.val, Tok.cells, pieceT]
    go_wp2_with fail
    refine bodyPost_ret (v := (pieceT s 1 i j).val) (by simp [results, Tryd.results71, go_sem, Tok.val, Tok.cells, pieceT, c0, c1, c2, c3, c4]) rfl ?_; exact ⟨by rw [D.out], below_five (below_box hb) _ _ _ _ _⟩

end Go.Proofs.YtlgklkokadbpeaaDoor
