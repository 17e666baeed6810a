import Derived.Test.YtlgklkokadbpeaaDoorScL
namespace Go.Proofs.YtlgklkokadbpeaaDoor
open Go.RowKit
set_option maxRecDepth 100000 in
set_option maxHeartbeats 1000000 in
theorem names_walk (s : ByteArray) (w : World) (hs : s.size ≤ 1048576) (hM : HasMax w) (hE : HasErrs w) :
    Calls Tryd.prog 10 #[.string s] w (LawPost w) := by
  have KA := Lib.hid (awake_true w hM hE)
  clear hM hE
  have K1 := Lib.hid (fun W => isname_prog s W (by omega))
  have K2 := Lib.hid (fun W => isname_ref s W (by omega))
  have K3 := Lib.hid (fun W => reserved_prog s W)
  have K4 := Lib.hid (fun W => reserved_ref s W)
  have K5 := Lib.hid (fun W => quote_prog s W (by omega))
  have K6 := Lib.hid (fun W => quote_ref s W (by omega))
  generalize nameB s = n1 at *
  generalize resL s.toList = n2 at *
  go_enter Tryd.func10, Tryd.ntmps10
  go_wp2_with fail
  refine KA.out.mono ?_
  rintro e w1 ⟨rfl, hb1⟩
  have HB1 := Lib.hid hb1
  clear hb1
  go_wp2_with fail
  refine (K1.out _).mono ?_
  rintro e w2 ⟨rfl, hb2⟩
  have HB2 := Lib.hid (below_step HB1.out hb2)
  clear hb2
  go_wp2_with fail
  refine (K2.out _).mono ?_
  rintro e w3 ⟨rfl, hb3⟩
  have HB3 := Lib.hid (below_step HB2.out hb3)
  clear hb3
  go_wp2_with fail
  refine (K3.out _).mono ?_
  rintro e w4 ⟨rfl, rfl⟩
  go_wp2_with fail
  refine (K4.out _).mono ?_
  rintro e w5 ⟨rfl, hb5⟩
  have HB5 := Lib.hid (below_step HB3.out hb5)
  clear hb5
  go_wp2_with fail
  refine (K5.out _).mono ?_
  rintro e w6 ⟨rfl, hb6⟩
  have HB6 := Lib.hid (below_step HB5.out hb6)
  clear hb6
  go_wp2_with fail
  refine (K6.out _).mono ?_
  rintro e w7 ⟨rfl, hb7⟩
  have HB7 := Lib.hid (below_step HB6.out hb7)
  clear hb7
  generalize (⟨(quoteL s).toArray⟩ : ByteArray) = q at *
  go_wp2_with fail
  go_ret
  exact ⟨rfl, HB7.out⟩
end Go.Proofs.YtlgklkokadbpeaaDoor
