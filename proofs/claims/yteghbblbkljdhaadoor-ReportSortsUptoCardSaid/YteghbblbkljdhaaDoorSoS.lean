import Derived.Test.YteghbblbkljdhaaDoorSoN
namespace Go.Proofs.YteghbblbkljdhaaDoor
open Go.RowKit
set_option maxRecDepth 100000 in
set_option maxHeartbeats 2000000 in
theorem eql_diag (x y : DiagD) (b : Bool) (hb : b = true ↔ x = y) (w : World) : (binOp .eql 55 (.agg #[.string x.f, .int .i64 x.a, .int .i64 x.c, .string x.t]) (.agg #[.string y.f, .int .i64 y.a, .int .i64 y.c, .string y.t])).run Tryd.prog w = .ok (.bool b) w := by
  obtain ⟨xf, xa, xc, xt⟩ := x
  obtain ⟨yf, ya, yc, yt⟩ := y
  simp only at hb ⊢
  have e1 := eqs_iff xf yf
  have e4 := eqs_iff xt yt
  by_cases h1 : xf = yf
  · by_cases h2 : xa = ya
    · by_cases h3 : xc = yc
      · by_cases h4 : xt = yt
        · subst h1 h2 h3 h4
          obtain rfl : b = true := hb.2 rfl
          go_simp
        · rw [decide_eq_false h4] at e4
          obtain rfl : b = false := Bool.eq_false_iff.2 (fun h => h4 (by have := hb.1 h; simp only [DiagD.mk.injEq] at this; exact this.2.2.2))
          subst h1 h2 h3
          go_simp
      · have e3 : (xc == yc) = false := by simpa using h3
        obtain rfl : b = false := Bool.eq_false_iff.2 (fun h => h3 (by have := hb.1 h; simp only [DiagD.mk.injEq] at this; exact this.2.2.1))
        subst h1 h2
        go_simp
    · have e2 : (xa == ya) = false := by simpa using h2
      obtain rfl : b = false := Bool.eq_false_iff.2 (fun h => h2 (by have := hb.1 h; simp only [DiagD.mk.injEq] at this; exact this.2.1))
      subst h1
      go_simp
  · rw [decide_eq_false h1] at e1
    obtain rfl : b = false := Bool.eq_false_iff.2 (fun h => h1 (by have := hb.1 h; simp only [DiagD.mk.injEq] at this; exact this.1))
    go_simp
end Go.Proofs.YteghbblbkljdhaaDoor
