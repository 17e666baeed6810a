import Derived.Test.YtgjblmlibhppiaaGreatDoorMz0
namespace Go.Proofs.YtgjblmlibhppiaaGreatDoor
open Go.RowKit
def FldOne (v : Val) (f : ByteArray × Int × Ty) : Prop := (∀ (i : Nat) (p : Val), v.names[i]? = some f.1 → v.parts[i]? = some p → IsV p f.2.2) ∧ (f.2.1 % 2 = 0 → ∃ (i : Nat) (p : Val), v.names[i]? = some f.1 ∧ v.parts[i]? = some p)
theorem isv_prim {v : Val} {t : Ty} (h1 : 4 ≤ t.k) (h2 : t.k ≤ 8) : IsV v t ↔ v.k = t.k := by
 constructor
 ·intro h0
  cases h0 with
  | top h => omega
  | prim h h2 h3 => exact h3
  | num h h2 h3 => omega
  | str h h2 h3 => omega
  | arr h h2 h3 h4 => omega
  | tup h h2 h3 h4 => omega
  | union h h2 h3 => omega
  | obj h h2 h3 h4 => omega
 ·exact fun h => .prim h1 h2 h
theorem isv_num {v : Val} {t : Ty} (h1 : t.k = 9) : IsV v t ↔ v.k = 7 ∧ v.n = t.n := by
 constructor
 ·intro h0
  cases h0 with
  | top h => omega
  | prim h h2 h3 => omega
  | num h h2 h3 => exact ⟨h2, h3⟩
  | str h h2 h3 => omega
  | arr h h2 h3 h4 => omega
  | tup h h2 h3 h4 => omega
  | union h h2 h3 => omega
  | obj h h2 h3 h4 => omega
 ·exact fun h => .num h1 h.1 h.2
theorem isv_str {v : Val} {t : Ty} (h1 : t.k = 10) : IsV v t ↔ v.k = 8 ∧ v.t = t.t := by
 constructor
 ·intro h0
  cases h0 with
  | top h => omega
  | prim h h2 h3 => omega
  | num h h2 h3 => omega
  | str h h2 h3 => exact ⟨h2, h3⟩
  | arr h h2 h3 h4 => omega
  | tup h h2 h3 h4 => omega
  | union h h2 h3 => omega
  | obj h h2 h3 h4 => omega
 ·exact fun h => .str h1 h.1 h.2
theorem isv_arr {v : Val} {t : Ty} {q : Ty} (h1 : t.k = 11) (hq : t.ps[0]? = some q) : IsV v t ↔ v.k = 11 ∧ ∀ p ∈ v.parts, IsV p q := by
 constructor
 ·intro h0
  cases h0 with
  | top h => omega
  | prim h h2 h3 => omega
  | num h h2 h3 => omega
  | str h h2 h3 => omega
  | arr h h2 h3 h4 => (rw [hq] at h3; injection h3 with h3; exact ⟨h2, h3 ▸ h4⟩)
  | tup h h2 h3 h4 => omega
  | union h h2 h3 => omega
  | obj h h2 h3 h4 => omega
 ·exact fun h => .arr h1 h.1 hq h.2
theorem isv_tup {v : Val} {t : Ty} (h1 : t.k = 12) : IsV v t ↔ v.k = 11 ∧ v.parts.length = t.ps.length ∧ ∀ (i : Nat) (p : Val) (q : Ty), v.parts[i]? = some p → t.ps[i]? = some q → IsV p q := by
 constructor
 ·intro h0
  cases h0 with
  | top h => omega
  | prim h h2 h3 => omega
  | num h h2 h3 => omega
  | str h h2 h3 => omega
  | arr h h2 h3 h4 => omega
  | tup h h2 h3 h4 => exact ⟨h2, h3, h4⟩
  | union h h2 h3 => omega
  | obj h h2 h3 h4 => omega
 ·exact fun h => .tup h1 h.1 h.2.1 h.2.2
theorem isv_union {v : Val} {t : Ty} (h1 : t.k = 15) : IsV v t ↔ ∃ q ∈ t.ps, IsV v q := by
 constructor
 ·intro h0
  cases h0 with
  | top h => omega
  | prim h h2 h3 => omega
  | num h h2 h3 => omega
  | str h h2 h3 => omega
  | arr h h2 h3 h4 => omega
  | tup h h2 h3 h4 => omega
  | union h h2 h3 => exact ⟨_, h2, h3⟩
  | obj h h2 h3 h4 => omega
 ·exact fun ⟨q, h2, h3⟩ => .union h1 h2 h3
theorem isv_obj {v : Val} {t : Ty} (h1 : t.k = 14) : IsV v t ↔ v.k = 14 ∧ ∀ f ∈ t.fs, FldOne v f := by
 constructor
 ·intro h0
  cases h0 with
  | top h => omega
  | prim h h2 h3 => omega
  | num h h2 h3 => omega
  | str h h2 h3 => omega
  | arr h h2 h3 h4 => omega
  | tup h h2 h3 h4 => omega
  | union h h2 h3 => omega
  | obj h h2 h3 h4 => exact ⟨h2, fun f hf => ⟨h3 f hf, h4 f hf⟩⟩
 ·exact fun h => .obj h1 h.1 (fun f hf => (h.2 f hf).1) fun f hf => (h.2 f hf).2
theorem isv_no {v : Val} {t : Ty} (h1 : t.k < 2 ∨ t.k = 13 ∨ 15 < t.k) : ¬ IsV v t := by
 intro h0
 cases h0 with
 | top h => omega
 | prim h h2 h3 => omega
 | num h h2 h3 => omega
 | str h h2 h3 => omega
 | arr h h2 h3 h4 => omega
 | tup h h2 h3 h4 => omega
 | union h h2 h3 => omega
 | obj h h2 h3 h4 => omega
end Go.Proofs.YtgjblmlibhppiaaGreatDoor
