import Derived.Test.YtgjblmlibhppiaaGreatDoorMz5
import Derived.Test.YtgjblmlibhppiaaGreatDoorMz6
namespace Go.Proofs.YtgjblmlibhppiaaGreatDoor
open Go.RowKit
theorem is_all (t : Ty) : IsP t := by
 refine Ty.ind (C := IsP) (fun k s n ps fs vs hp hf hv => ?_) t
 intro K w v cs ds hr hrv hg hn
 by_cases h1 : k = 2 ∨ k = 3
 ·exact is_top hr hrv hg hn h1
 by_cases h2 : 4 ≤ k ∧ k ≤ 8
 ·exact is_prim hr hrv hg hn h2.1 h2.2
 by_cases h3 : k = 9
 ·exact is_num hr hrv hg hn h3
 by_cases h4 : k = 10
 ·exact is_str hr hrv hg hn h4
 by_cases h5 : k = 11
 ·exact is_arr hr hrv hg hn h5 hp
 by_cases h6 : k = 12
 ·exact is_tup hr hrv hg hn h6 hp
 by_cases h7 : k = 15
 ·exact is_uni hr hrv hg hn h7 hp
 by_cases h8 : k = 14
 ·exact is_obj hr hrv hg hn h8 hf
 ·exact is_no hr hrv hg hn (by show k < 2 ∨ k = 13 ∨ 15 < k; omega)
end Go.Proofs.YtgjblmlibhppiaaGreatDoor
