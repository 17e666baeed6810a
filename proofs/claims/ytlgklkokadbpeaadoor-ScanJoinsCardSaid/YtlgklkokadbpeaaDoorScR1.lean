import Derived.Test.YtlgklkokadbpeaaDoorSc5
namespace Go.Proofs.YtlgklkokadbpeaaDoor
open Go.RowKit
theorem occ_fit (s : ByteArray) : ∀ (l : List UInt8) (i : Nat), (∀ c ∈ l, 0 < c.toNat) → occ s i l = true → i ≤ s.size → i + l.length ≤ s.size := by
  intro l
  induction l with
  | nil => intro i _ _ h; simpa using h
  | cons c r ih =>
    intro i hp h hi
    simp only [occ, Bool.and_eq_true, beq_iff_eq] at h
    have hlt : i < s.size := by
      rcases Nat.lt_or_ge i s.size with h2 | h2
      · exact h2
      · have := B_end s i h2; have := hp c (.head _); omega
    have := ih (i + 1) (fun c hc => hp c (.tail _ hc)) h.2 (by omega)
    simp only [List.length_cons]; omega
theorem ext_mid (s : ByteArray) (i e : Nat) : (s.extract i e).data.toList = (s.data.toList.drop i).take (e - i) := by
  simp [ByteArray.extract, ByteArray.copySlice, List.extract_eq_take_drop]
theorem begins_eq (s p : ByteArray) (i : Nat) (hpos : ∀ c ∈ p.data.toList, 0 < c.toNat) (_h : i + p.size ≤ s.size) : ((s.extract i (i + p.size)).toList == p.toList) = occ s i p.data.toList := by
  rw [← occ_pre s p.data.toList i hpos, toList_eq, toList_eq, Bool.eq_iff_iff, beq_iff_eq, List.isPrefixOf_iff_prefix, List.prefix_iff_eq_take, ext_mid, show i + p.size - i = p.data.toList.length by rw [Array.length_toList]; show _ = p.size; omega]
  exact eq_comm
theorem begins_no (s p : ByteArray) (i : Nat) (hpos : ∀ c ∈ p.data.toList, 0 < c.toNat) (hi : i ≤ s.size) (h : ¬ i + p.size ≤ s.size) : false = occ s i p.data.toList := by
  cases ho : occ s i p.data.toList with
  | false => rfl
  | true =>
    have := occ_fit s _ i hpos ho hi
    rw [Array.length_toList] at this
    exact absurd this h
set_option maxHeartbeats 400000 in
theorem begins_ref (s p : ByteArray) (i : Nat) (w : World) (hs : s.size ≤ 1000000000) (hi : i ≤ s.size) (hp : p.size ≤ 1000) (hpos : ∀ c ∈ p.data.toList, 0 < c.toNat) :
    Calls Tryd.prog 39 #[.string s, .int .i64 i, .string p] w fun e w' => e = .returned (.bool (occ s i p.data.toList)) ∧ w = w' := by
  by_cases h : i + p.size ≤ s.size
  · have t1 : decide ((i : Int) + (p.size : Int) ≤ (s.size : Int)) = true := by simp; omega
    have H := Lib.hid (begins_eq s p i hpos h)
    clear hpos
    go_enter Tryd.func39, Tryd.ntmps39
    go_wp2_with fail
    go_ret
    exact ⟨ret_bool H.out, rfl⟩
  · have t1 : decide ((i : Int) + (p.size : Int) ≤ (s.size : Int)) = false := by simp; omega
    have H := Lib.hid (begins_no s p i hpos hi h)
    clear hpos
    go_enter Tryd.func39, Tryd.ntmps39
    go_wp2_with fail
    go_ret
    exact ⟨ret_bool H.out, rfl⟩
end Go.Proofs.YtlgklkokadbpeaaDoor
