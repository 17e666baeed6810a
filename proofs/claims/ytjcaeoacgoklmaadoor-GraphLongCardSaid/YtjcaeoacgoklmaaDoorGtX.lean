import Derived.Test.YtjcaeoacgoklmaaDoorGtP
namespace Go.Proofs.YtjcaeoacgoklmaaDoor
open Go.RowKit
theorem tmod_nat (z : Nat) : Int.tmod (z : Int) 24 = ((z % 24 : Nat) : Int) := by
  show Int.tmod (Int.ofNat z) (Int.ofNat 24) = _
  rfl
theorem rem_run (z : Nat) (w : World) : (binOp .rem 5 (.int .u8 (z : Int)) (.int .u8 24)).run Tryd.prog w = .ok (.int .u8 ((z % 24 : Nat) : Int)) w := by
  rw [← tmod_nat]
  generalize (z : Int) = y
  kernel_rfl
theorem conv_run {k : Nat} (hk : k < 24) (w : World) : (convert 5 3 (.int .u8 (k : Int))).run Tryd.prog w = .ok (.int .i64 (k : Int)) w := by
  have h : (convert 5 3 (.int .u8 (k : Int))).run Tryd.prog w = .ok (.int .i64 (IntKind.i64.wrap (k : Int))) w := by
    generalize (k : Int) = y
    kernel_rfl
  rw [h, show IntKind.i64.wrap (k : Int) = w64 k from rfl, w64_in (by omega) (by omega)]
theorem rune_run {k : Nat} (hk : k < 24) (w : World) : (convert 3 21 (.int .i64 ((97 : Int) + k))).run Tryd.prog w = .ok (.int .i32 ((97 : Int) + k)) w := by
  have h : ∀ y : Int, (convert 3 21 (.int .i64 y)).run Tryd.prog w = .ok (.int .i32 (IntKind.i32.wrap y)) w := fun y => by kernel_rfl
  rw [h]
  have : IntKind.i32.wrap ((97 : Int) + k) = (97 : Int) + k := by
    match k, hk with
    | 0, _ | 1, _ | 2, _ | 3, _ | 4, _ | 5, _ | 6, _ | 7, _ | 8, _ | 9, _ | 10, _ | 11, _ | 12, _ | 13, _ | 14, _ | 15, _ | 16, _ | 17, _ | 18, _ | 19, _ | 20, _ | 21, _ | 22, _ | 23, _ => decide
    | k + 24, h => omega
  rw [this]
theorem enc_nm {k : Nat} (hk : k < 24) : Utf8.encode ((97 : Int) + k) = ⟨#[UInt8.ofNat (97 + k)]⟩ := by
  match k, hk with
  | 0, _ | 1, _ | 2, _ | 3, _ | 4, _ | 5, _ | 6, _ | 7, _ | 8, _ | 9, _ | 10, _ | 11, _ | 12, _ | 13, _ | 14, _ | 15, _ | 16, _ | 17, _ | 18, _ | 19, _ | 20, _ | 21, _ | 22, _ | 23, _ => decide +kernel
  | k + 24, h => omega
theorem str_run {k : Nat} (hk : k < 24) (w : World) : (convert 21 9 (.int .i32 ((97 : Int) + k))).run Tryd.prog w = .ok (.string ⟨#[UInt8.ofNat (97 + k)]⟩) w := by
  have h : ∀ y : Int, (convert 21 9 (.int .i32 y)).run Tryd.prog w = .ok (.string (Utf8.encode y)) w := fun y => by kernel_rfl
  rw [h, enc_nm hk]
theorem cat_run (b : UInt8) (w : World) : (binOp .add 9 (.string ⟨#[114]⟩) (.string ⟨#[b]⟩)).run Tryd.prog w = .ok (.string ⟨#[114, b]⟩) w := by kernel_rfl
end Go.Proofs.YtjcaeoacgoklmaaDoor
