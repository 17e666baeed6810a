import Derived.Test.YtllhfnpchplibaaGreatDoorMc47
import Derived.Test.YtllhfnpchplibaaGreatDoorMc48
namespace Go.Proofs.YtllhfnpchplibaaGreatDoor
open Go.RowKit
theorem splits_walk {K K2 K3 : Nat → Prop} {w : World} {a b u : Ty} {cs ds us : List Value} (hr : RepT K w a cs) (hp : RepT K2 w b ds) (hu : RepT K3 w u us) : Calls Tryz.prog 3 #[.agg cs.toArray, .agg ds.toArray, .agg us.toArray] w (fun e w' => e = .returned (.bool true) ∧ Below w.heap.size w w') := by
 obtain ⟨k, s, n, ps, fs, vs⟩ := a
 obtain ⟨k3, s3, n3, ps3, fs3, vs3⟩ := b
 obtain ⟨k9, s9, n9, ps9, fs9, vs9⟩ := u
 by_cases hsm : cntT (.mk k s n ps fs vs) + cntT (.mk k3 s3 n3 ps3 fs3 vs3) + cntT (.mk k9 s9 n9 ps9 fs9 vs9) ≤ 300
 ·cases hfa : formedT (.mk k s n ps fs vs) with
  | false => exact split_fa k s n ps fs vs k3 s3 n3 ps3 fs3 vs3 k9 s9 n9 ps9 fs9 vs9 hr hp hu hsm hfa
  | true =>
   cases hfb : formedT (.mk k3 s3 n3 ps3 fs3 vs3) with
   | false => exact split_fb k s n ps fs vs k3 s3 n3 ps3 fs3 vs3 k9 s9 n9 ps9 fs9 vs9 hr hp hu hsm hfa hfb
   | true =>
    cases hfk : formedT (.mk k9 s9 n9 ps9 fs9 vs9) with
    | false => exact split_fk k s n ps fs vs k3 s3 n3 ps3 fs3 vs3 k9 s9 n9 ps9 fs9 vs9 hr hp hu hsm hfa hfb hfk
    | true =>
     by_cases h1 : k = 3
     ·exact split_k1 k s n ps fs vs k3 s3 n3 ps3 fs3 vs3 k9 s9 n9 ps9 fs9 vs9 hr hp hu hsm hfa hfb hfk h1
     by_cases h2 : k3 = 3
     ·exact split_k2 k s n ps fs vs k3 s3 n3 ps3 fs3 vs3 k9 s9 n9 ps9 fs9 vs9 hr hp hu hsm hfa hfb hfk h1 h2
     by_cases h3 : k = 2
     ·exact split_k3 k s n ps fs vs k3 s3 n3 ps3 fs3 vs3 k9 s9 n9 ps9 fs9 vs9 hr hp hu hsm hfa hfb hfk h1 h2 h3
     by_cases h4 : k3 = 2
     ·exact split_k4 k s n ps fs vs k3 s3 n3 ps3 fs3 vs3 k9 s9 n9 ps9 fs9 vs9 hr hp hu hsm hfa hfb hfk h1 h2 h3 h4
     ·exact split_m k s n ps fs vs k3 s3 n3 ps3 fs3 vs3 k9 s9 n9 ps9 fs9 vs9 hr hp hu hsm hfa hfb hfk h1 h2 h3 h4
 ·exact split_s k s n ps fs vs k3 s3 n3 ps3 fs3 vs3 k9 s9 n9 ps9 fs9 vs9 hr hp hu hsm
end Go.Proofs.YtllhfnpchplibaaGreatDoor
