import Derived.Test.YtgjblmlibhppiaaGreatDoorMy20
import Derived.Test.YtgjblmlibhppiaaGreatDoorMy21
import Derived.Test.YtgjblmlibhppiaaGreatDoorMy22
import Derived.Test.YtgjblmlibhppiaaGreatDoorMy23
import Derived.Test.YtgjblmlibhppiaaGreatDoorMy24
namespace Go.Proofs.YtgjblmlibhppiaaGreatDoor
set_option maxRecDepth 100000
set_option maxHeartbeats 64000000
open Go.RowKit
theorem form_step15 (t : ByteArray) (n : Int) (ps : List Ty) (fs : FsT) (vs : VsT) (hp : ∀ p ∈ ps, FormR p) (hf : ∀ f ∈ fs, FormR f.2.2) (hv : ∀ v ∈ vs, ∀ b ∈ v.2, FormR b) (hnf : fs.length = 0) (hnv : vs.length = 0) (hpa : ps.all formT = true) : FormR (.mk 15 t n ps fs vs) := by
 by_cases ht0 : t.toList = []
 ·by_cases hn0 : n = 0
  ·by_cases hnp : 2 ≤ ps.length
   ·exact form_15y t n ps fs vs hp hf hv hnf hnv hpa ht0 hn0 hnp
   ·exact form_15p t n ps fs vs hp hf hv hnf hnv hpa ht0 hn0 hnp
  ·exact form_15n t n ps fs vs hp hf hv hnf hnv hpa ht0 hn0
 ·obtain ⟨a0, l0, h⟩ := List.exists_cons_of_ne_nil ht0
  exact form_15t t n ps fs vs hp hf hv hnf hnv hpa a0 l0 h
theorem form_stepL (k : Int) (hk : k = 1 ∨ k = 2 ∨ k = 3 ∨ k = 4 ∨ k = 5 ∨ k = 6 ∨ k = 7 ∨ k = 8) (t : ByteArray) (n : Int) (ps : List Ty) (fs : FsT) (vs : VsT) (hp : ∀ p ∈ ps, FormR p) (hf : ∀ f ∈ fs, FormR f.2.2) (hv : ∀ v ∈ vs, ∀ b ∈ v.2, FormR b) (hnf : fs.length = 0) (hnv : vs.length = 0) (hpa : ps.all formT = true) : FormR (.mk k t n ps fs vs) := by
 by_cases ht0 : t.toList = []
 ·by_cases hn0 : n = 0
  ·by_cases hnp : ps.length = 0
   ·exact form_Ly k hk t n ps fs vs hp hf hv hnf hnv hpa ht0 hn0 hnp
   ·exact form_Lp k hk t n ps fs vs hp hf hv hnf hnv hpa ht0 hn0 hnp
  ·exact form_Ln k hk t n ps fs vs hp hf hv hnf hnv hpa ht0 hn0
 ·obtain ⟨a0, l0, h⟩ := List.exists_cons_of_ne_nil ht0
  exact form_Lt k hk t n ps fs vs hp hf hv hnf hnv hpa a0 l0 h
theorem form_step9 (t : ByteArray) (n : Int) (ps : List Ty) (fs : FsT) (vs : VsT) (hp : ∀ p ∈ ps, FormR p) (hf : ∀ f ∈ fs, FormR f.2.2) (hv : ∀ v ∈ vs, ∀ b ∈ v.2, FormR b) (hnf : fs.length = 0) (hnv : vs.length = 0) (hpa : ps.all formT = true) : FormR (.mk 9 t n ps fs vs) := by
 by_cases ht0 : t.toList = []
 ·by_cases hn0 : 0 ≤ n
  ·by_cases hnp : ps.length = 0
   ·exact form_9y t n ps fs vs hp hf hv hnf hnv hpa ht0 hn0 hnp
   ·exact form_9p t n ps fs vs hp hf hv hnf hnv hpa ht0 hn0 hnp
  ·exact form_9n t n ps fs vs hp hf hv hnf hnv hpa ht0 hn0
 ·obtain ⟨a0, l0, h⟩ := List.exists_cons_of_ne_nil ht0
  exact form_9t t n ps fs vs hp hf hv hnf hnv hpa a0 l0 h
theorem form_step10 (t : ByteArray) (n : Int) (ps : List Ty) (fs : FsT) (vs : VsT) (hp : ∀ p ∈ ps, FormR p) (hf : ∀ f ∈ fs, FormR f.2.2) (hv : ∀ v ∈ vs, ∀ b ∈ v.2, FormR b) (hnf : fs.length = 0) (hnv : vs.length = 0) (hpa : ps.all formT = true) : FormR (.mk 10 t n ps fs vs) := by
 by_cases hn0 : n = 0
 ·by_cases hnp : ps.length = 0
  ·exact form_10y t n ps fs vs hp hf hv hnf hnv hpa hn0 hnp
  ·exact form_10p t n ps fs vs hp hf hv hnf hnv hpa hn0 hnp
 ·exact form_10n t n ps fs vs hp hf hv hnf hnv hpa hn0
theorem form_step11 (t : ByteArray) (n : Int) (ps : List Ty) (fs : FsT) (vs : VsT) (hp : ∀ p ∈ ps, FormR p) (hf : ∀ f ∈ fs, FormR f.2.2) (hv : ∀ v ∈ vs, ∀ b ∈ v.2, FormR b) (hnf : fs.length = 0) (hnv : vs.length = 0) (hpa : ps.all formT = true) : FormR (.mk 11 t n ps fs vs) := by
 by_cases ht0 : t.toList = []
 ·by_cases hn0 : n = 0
  ·by_cases hnp : ps.length = 1
   ·exact form_Ry 11 (by omega) t n ps fs vs hp hf hv hnf hnv hpa ht0 hn0 hnp
   ·exact form_Rp 11 (by omega) t n ps fs vs hp hf hv hnf hnv hpa ht0 hn0 hnp
  ·exact form_Rn 11 (by omega) t n ps fs vs hp hf hv hnf hnv hpa ht0 hn0
 ·obtain ⟨a0, l0, h⟩ := List.exists_cons_of_ne_nil ht0
  exact form_Rt 11 (by omega) t n ps fs vs hp hf hv hnf hnv hpa a0 l0 h
theorem form_step12 (t : ByteArray) (n : Int) (ps : List Ty) (fs : FsT) (vs : VsT) (hp : ∀ p ∈ ps, FormR p) (hf : ∀ f ∈ fs, FormR f.2.2) (hv : ∀ v ∈ vs, ∀ b ∈ v.2, FormR b) (hnf : fs.length = 0) (hnv : vs.length = 0) (hpa : ps.all formT = true) : FormR (.mk 12 t n ps fs vs) := by
 by_cases ht0 : t.toList = []
 ·by_cases hn0 : n = 0
  ·exact form_12y t n ps fs vs hp hf hv hnf hnv hpa ht0 hn0
  ·exact form_12n t n ps fs vs hp hf hv hnf hnv hpa ht0 hn0
 ·obtain ⟨a0, l0, h⟩ := List.exists_cons_of_ne_nil ht0
  exact form_12t t n ps fs vs hp hf hv hnf hnv hpa a0 l0 h
theorem form_step13 (t : ByteArray) (n : Int) (ps : List Ty) (fs : FsT) (vs : VsT) (hp : ∀ p ∈ ps, FormR p) (hf : ∀ f ∈ fs, FormR f.2.2) (hv : ∀ v ∈ vs, ∀ b ∈ v.2, FormR b) (hnf : fs.length = 0) (hpa : ps.all formT = true) : FormR (.mk 13 t n ps fs vs) := by
 by_cases ht0 : t.toList = []
 ·by_cases hn0 : n = 0
  ·by_cases hnp : 1 ≤ ps.length
   ·cases hq : varsB (varsT vs formT) with
    | false => exact form_13bf t n ps fs vs hp hf hv hnf hpa ht0 hn0 hnp hq
    | true => exact form_13bt t n ps fs vs hp hf hv hnf hpa ht0 hn0 hnp hq
   ·exact form_13p t n ps fs vs hp hf hv hnf hpa ht0 hn0 hnp
  ·exact form_13n t n ps fs vs hp hf hv hnf hpa ht0 hn0
 ·obtain ⟨a0, l0, h⟩ := List.exists_cons_of_ne_nil ht0
  exact form_13t t n ps fs vs hp hf hv hnf hpa a0 l0 h
theorem form_step14 (t : ByteArray) (n : Int) (ps : List Ty) (fs : FsT) (vs : VsT) (hp : ∀ p ∈ ps, FormR p) (hf : ∀ f ∈ fs, FormR f.2.2) (hv : ∀ v ∈ vs, ∀ b ∈ v.2, FormR b) (hnv : vs.length = 0) (hpa : ps.all formT = true) : FormR (.mk 14 t n ps fs vs) := by
 by_cases ht0 : t.toList = []
 ·by_cases hn0 : n = 0
  ·by_cases hnp : ps.length = 0
   ·cases hq : fieldsB (fieldsT fs formT) with
    | false => exact form_14bf t n ps fs vs hp hf hv hnv hpa ht0 hn0 hnp hq
    | true => exact form_14bt t n ps fs vs hp hf hv hnv hpa ht0 hn0 hnp hq
   ·exact form_14p t n ps fs vs hp hf hv hnv hpa ht0 hn0 hnp
  ·exact form_14n t n ps fs vs hp hf hv hnv hpa ht0 hn0
 ·obtain ⟨a0, l0, h⟩ := List.exists_cons_of_ne_nil ht0
  exact form_14t t n ps fs vs hp hf hv hnv hpa a0 l0 h
theorem form_step16 (t : ByteArray) (n : Int) (ps : List Ty) (fs : FsT) (vs : VsT) (hp : ∀ p ∈ ps, FormR p) (hf : ∀ f ∈ fs, FormR f.2.2) (hv : ∀ v ∈ vs, ∀ b ∈ v.2, FormR b) (hnf : fs.length = 0) (hnv : vs.length = 0) (hpa : ps.all formT = true) : FormR (.mk 16 t n ps fs vs) := by
 cases hnm : nameT t with
 | false => exact form_Mm 16 (by omega) t n ps fs vs hp hf hv hnf hnv hpa hnm
 | true =>
  by_cases hn0 : n = 0
  ·by_cases hnp : ps.length = 0
   ·exact form_My 16 (by omega) t n ps fs vs hp hf hv hnf hnv hpa hnm hn0 hnp
   ·exact form_Mp 16 (by omega) t n ps fs vs hp hf hv hnf hnv hpa hnm hn0 hnp
  ·exact form_Mn 16 (by omega) t n ps fs vs hp hf hv hnf hnv hpa hnm hn0
theorem form_step17 (t : ByteArray) (n : Int) (ps : List Ty) (fs : FsT) (vs : VsT) (hp : ∀ p ∈ ps, FormR p) (hf : ∀ f ∈ fs, FormR f.2.2) (hv : ∀ v ∈ vs, ∀ b ∈ v.2, FormR b) (hnf : fs.length = 0) (hnv : vs.length = 0) (hpa : ps.all formT = true) : FormR (.mk 17 t n ps fs vs) := by
 cases hnm : nameT t with
 | false => exact form_17m t n ps fs vs hp hf hv hnf hnv hpa hnm
 | true =>
  by_cases hn0 : n = 0
  ·exact form_17y t n ps fs vs hp hf hv hnf hnv hpa hnm hn0
  ·exact form_17n t n ps fs vs hp hf hv hnf hnv hpa hnm hn0
theorem form_step18 (t : ByteArray) (n : Int) (ps : List Ty) (fs : FsT) (vs : VsT) (hp : ∀ p ∈ ps, FormR p) (hf : ∀ f ∈ fs, FormR f.2.2) (hv : ∀ v ∈ vs, ∀ b ∈ v.2, FormR b) (hnf : fs.length = 0) (hnv : vs.length = 0) (hpa : ps.all formT = true) : FormR (.mk 18 t n ps fs vs) := by
 by_cases ht0 : t.toList = []
 ·by_cases hn0 : n = 0
  ·by_cases hnp : ps.length = 1
   ·exact form_Ry 18 (by omega) t n ps fs vs hp hf hv hnf hnv hpa ht0 hn0 hnp
   ·exact form_Rp 18 (by omega) t n ps fs vs hp hf hv hnf hnv hpa ht0 hn0 hnp
  ·exact form_Rn 18 (by omega) t n ps fs vs hp hf hv hnf hnv hpa ht0 hn0
 ·obtain ⟨a0, l0, h⟩ := List.exists_cons_of_ne_nil ht0
  exact form_Rt 18 (by omega) t n ps fs vs hp hf hv hnf hnv hpa a0 l0 h
theorem form_step19 (t : ByteArray) (n : Int) (ps : List Ty) (fs : FsT) (vs : VsT) (hp : ∀ p ∈ ps, FormR p) (hf : ∀ f ∈ fs, FormR f.2.2) (hv : ∀ v ∈ vs, ∀ b ∈ v.2, FormR b) (hnf : fs.length = 0) (hnv : vs.length = 0) (hpa : ps.all formT = true) : FormR (.mk 19 t n ps fs vs) := by
 by_cases ht0 : t.toList = []
 ·by_cases hn0 : n = 0
  ·by_cases hnp : ps.length = 2
   ·exact form_19y t n ps fs vs hp hf hv hnf hnv hpa ht0 hn0 hnp
   ·exact form_19p t n ps fs vs hp hf hv hnf hnv hpa ht0 hn0 hnp
  ·exact form_19n t n ps fs vs hp hf hv hnf hnv hpa ht0 hn0
 ·obtain ⟨a0, l0, h⟩ := List.exists_cons_of_ne_nil ht0
  exact form_19t t n ps fs vs hp hf hv hnf hnv hpa a0 l0 h
theorem form_step20 (t : ByteArray) (n : Int) (ps : List Ty) (fs : FsT) (vs : VsT) (hp : ∀ p ∈ ps, FormR p) (hf : ∀ f ∈ fs, FormR f.2.2) (hv : ∀ v ∈ vs, ∀ b ∈ v.2, FormR b) (hnf : fs.length = 0) (hnv : vs.length = 0) (hpa : ps.all formT = true) : FormR (.mk 20 t n ps fs vs) := by
 cases hnm : nameT t with
 | false => exact form_20m t n ps fs vs hp hf hv hnf hnv hpa hnm
 | true =>
  by_cases hn0 : 0 ≤ n
  ·by_cases hn3 : n ≤ 3
   ·by_cases hnp : ps.length = 2
    ·exact form_20y t n ps fs vs hp hf hv hnf hnv hpa hnm hn0 hn3 hnp
    ·exact form_20p t n ps fs vs hp hf hv hnf hnv hpa hnm hn0 hn3 hnp
   ·exact form_20o t n ps fs vs hp hf hv hnf hnv hpa hnm hn0 hn3
  ·exact form_20n t n ps fs vs hp hf hv hnf hnv hpa hnm hn0
theorem form_step21 (t : ByteArray) (n : Int) (ps : List Ty) (fs : FsT) (vs : VsT) (hp : ∀ p ∈ ps, FormR p) (hf : ∀ f ∈ fs, FormR f.2.2) (hv : ∀ v ∈ vs, ∀ b ∈ v.2, FormR b) (hnf : fs.length = 0) (hnv : vs.length = 0) (hpa : ps.all formT = true) : FormR (.mk 21 t n ps fs vs) := by
 by_cases hnp : ps.length = 4
 ·by_cases hn0 : n = 0
  ·by_cases ht0 : t.toList = []
   ·exact form_21a t n ps fs vs hp hf hv hnf hnv hpa hnp hn0 ht0
   ·obtain ⟨a0, l0, h⟩ := List.exists_cons_of_ne_nil ht0
    exact form_21b t n ps fs vs hp hf hv hnf hnv hpa hnp hn0 a0 l0 h
  ·by_cases hn1 : n = 1
   ·cases hnm : nameT t with
    | false => exact form_21mf t n ps fs vs hp hf hv hnf hnv hpa hnp hn0 hn1 hnm
    | true => exact form_21mt t n ps fs vs hp hf hv hnf hnv hpa hnp hn0 hn1 hnm
   ·exact form_21c t n ps fs vs hp hf hv hnf hnv hpa hnp hn0 hn1
 ·exact form_21p t n ps fs vs hp hf hv hnf hnv hpa hnp
theorem form_step22 (t : ByteArray) (n : Int) (ps : List Ty) (fs : FsT) (vs : VsT) (hp : ∀ p ∈ ps, FormR p) (hf : ∀ f ∈ fs, FormR f.2.2) (hv : ∀ v ∈ vs, ∀ b ∈ v.2, FormR b) (hnf : fs.length = 0) (hnv : vs.length = 0) (hpa : ps.all formT = true) : FormR (.mk 22 t n ps fs vs) := by
 cases hnm : nameT t with
 | false => exact form_Mm 22 (by omega) t n ps fs vs hp hf hv hnf hnv hpa hnm
 | true =>
  by_cases hn0 : n = 0
  ·by_cases hnp : ps.length = 0
   ·exact form_My 22 (by omega) t n ps fs vs hp hf hv hnf hnv hpa hnm hn0 hnp
   ·exact form_Mp 22 (by omega) t n ps fs vs hp hf hv hnf hnv hpa hnm hn0 hnp
  ·exact form_Mn 22 (by omega) t n ps fs vs hp hf hv hnf hnv hpa hnm hn0
theorem form_step23 (t : ByteArray) (n : Int) (ps : List Ty) (fs : FsT) (vs : VsT) (hp : ∀ p ∈ ps, FormR p) (hf : ∀ f ∈ fs, FormR f.2.2) (hv : ∀ v ∈ vs, ∀ b ∈ v.2, FormR b) (hnf : fs.length = 0) (hnv : vs.length = 0) (hpa : ps.all formT = true) : FormR (.mk 23 t n ps fs vs) := by
 by_cases ht0 : t.toList = []
 ·by_cases hn0 : n = 0
  ·by_cases hnp : 2 ≤ ps.length
   ·cases hq : overT ps with
    | false => exact form_23bf t n ps fs vs hp hf hv hnf hnv hpa ht0 hn0 hnp hq
    | true => exact form_23bt t n ps fs vs hp hf hv hnf hnv hpa ht0 hn0 hnp hq
   ·exact form_23p t n ps fs vs hp hf hv hnf hnv hpa ht0 hn0 hnp
  ·exact form_23n t n ps fs vs hp hf hv hnf hnv hpa ht0 hn0
 ·obtain ⟨a0, l0, h⟩ := List.exists_cons_of_ne_nil ht0
  exact form_23t t n ps fs vs hp hf hv hnf hnv hpa a0 l0 h
theorem formr_step (k : Int) (t : ByteArray) (n : Int) (ps : List Ty) (fs : FsT) (vs : VsT) (hp : ∀ p ∈ ps, FormR p) (hf : ∀ f ∈ fs, FormR f.2.2) (hv : ∀ v ∈ vs, ∀ b ∈ v.2, FormR b) : FormR (.mk k t n ps fs vs) := by
 by_cases h14 : k = 14
 ·subst h14
  by_cases hnv : vs.length = 0
  ·cases hpa : ps.all formT with
   | false => exact form_pa14 t n ps fs vs hp hf hv hnv hpa
   | true => exact form_step14 t n ps fs vs hp hf hv hnv hpa
  ·exact form_nv14 t n ps fs vs hp hf hv (by omega)
 by_cases hnf : fs.length = 0
 ·by_cases h13 : k = 13
  ·subst h13
   cases hpa : ps.all formT with
   | false => exact form_pa13 t n ps fs vs hp hf hv hnf hpa
   | true => exact form_step13 t n ps fs vs hp hf hv hnf hpa
  by_cases hnv : vs.length = 0
  ·cases hpa : ps.all formT with
   | false => exact form_pa k t n ps fs vs hp hf hv h14 hnf h13 hnv hpa
   | true =>
    by_cases hL : k = 1 ∨ k = 2 ∨ k = 3 ∨ k = 4 ∨ k = 5 ∨ k = 6 ∨ k = 7 ∨ k = 8
    ·exact form_stepL k hL t n ps fs vs hp hf hv hnf hnv hpa
    by_cases h9 : k = 9
    ·subst h9; exact form_step9 t n ps fs vs hp hf hv hnf hnv hpa
    by_cases h10 : k = 10
    ·subst h10; exact form_step10 t n ps fs vs hp hf hv hnf hnv hpa
    by_cases h11 : k = 11
    ·subst h11; exact form_step11 t n ps fs vs hp hf hv hnf hnv hpa
    by_cases h12 : k = 12
    ·subst h12; exact form_step12 t n ps fs vs hp hf hv hnf hnv hpa
    by_cases h15 : k = 15
    ·subst h15; exact form_step15 t n ps fs vs hp hf hv hnf hnv hpa
    by_cases h16 : k = 16
    ·subst h16; exact form_step16 t n ps fs vs hp hf hv hnf hnv hpa
    by_cases h17 : k = 17
    ·subst h17; exact form_step17 t n ps fs vs hp hf hv hnf hnv hpa
    by_cases h18 : k = 18
    ·subst h18; exact form_step18 t n ps fs vs hp hf hv hnf hnv hpa
    by_cases h19 : k = 19
    ·subst h19; exact form_step19 t n ps fs vs hp hf hv hnf hnv hpa
    by_cases h20 : k = 20
    ·subst h20; exact form_step20 t n ps fs vs hp hf hv hnf hnv hpa
    by_cases h21 : k = 21
    ·subst h21; exact form_step21 t n ps fs vs hp hf hv hnf hnv hpa
    by_cases h22 : k = 22
    ·subst h22; exact form_step22 t n ps fs vs hp hf hv hnf hnv hpa
    by_cases h23 : k = 23
    ·subst h23; exact form_step23 t n ps fs vs hp hf hv hnf hnv hpa
    exact form_no k t n ps fs vs hp hf hv (by omega) (by omega) (by omega) (by omega) (by omega) (by omega) (by omega) (by omega) h9 h10 h11 h12 h13 h14 h15 h16 h17 h18 h19 h20 h21 h22 h23 hnf hnv hpa
  ·exact form_nv k t n ps fs vs hp hf hv h14 hnf h13 (by omega)
 ·exact form_nf k t n ps fs vs hp hf hv h14 (by omega)
theorem form_ref (t : Ty) : FormR t := Ty.ind (C := FormR) (fun k t n ps fs vs hp hf hv => formr_step k t n ps fs vs hp hf hv) t
theorem three_put {W : World} {g0 g1 g2 : Nat} {T0 T1 T2 : TypeId} {v0 v1 v2 : Value} (a0 : W.heap[g0]? = some (.cells #[v0] T0 (0, 0))) (a1 : W.heap[g1]? = some (.cells #[v1] T1 (0, 0))) (a2 : W.heap[g2]? = some (.cells #[v2] T2 (0, 0))) (n01 : g0 ≠ g1) (n02 : g0 ≠ g2) (n12 : g1 ≠ g2) (x0 x1 x2 : Value) :
  (((W.setCell ⟨g0, 0, none⟩ x0).setCell ⟨g1, 0, none⟩ x1).setCell ⟨g2, 0, none⟩ x2).heap[g0]? = some (.cells #[x0] T0 (0, 0)) ∧ (((W.setCell ⟨g0, 0, none⟩ x0).setCell ⟨g1, 0, none⟩ x1).setCell ⟨g2, 0, none⟩ x2).heap[g1]? = some (.cells #[x1] T1 (0, 0)) ∧ (((W.setCell ⟨g0, 0, none⟩ x0).setCell ⟨g1, 0, none⟩ x1).setCell ⟨g2, 0, none⟩ x2).heap[g2]? = some (.cells #[x2] T2 (0, 0)) ∧ ButG (fun x => x = g0 ∨ x = g1 ∨ x = g2) W (((W.setCell ⟨g0, 0, none⟩ x0).setCell ⟨g1, 0, none⟩ x1).setCell ⟨g2, 0, none⟩ x2) := by
 have hs : ∀ (w : World) (g : Nat) (v : Value), ButG (fun x => x = g) w (w.setCell ⟨g, 0, none⟩ v) := fun w g v => ⟨rfl, rfl, rfl, by simp [World.setCell], fun k _ hn => Below.heap_setCell _ _ _ _ hn⟩
 have b0 := Go.heap_setCell_same W g0 0 _ _ x0 a0
 have b1 := ((hs W g0 x0).block g1 (Array.getElem?_eq_some_iff.1 a1).1 (fun e => n01 e.symm)).trans a1
 have b2 := ((hs W g0 x0).block g2 (Array.getElem?_eq_some_iff.1 a2).1 (fun e => n02 e.symm)).trans a2
 have c0 := ((hs _ g1 x1).block g0 (Array.getElem?_eq_some_iff.1 b0).1 n01).trans b0
 have c1 := Go.heap_setCell_same _ g1 0 _ _ x1 b1
 have c2 := ((hs _ g1 x1).block g2 (Array.getElem?_eq_some_iff.1 b2).1 (fun e => n12 e.symm)).trans b2
 have d0 := ((hs _ g2 x2).block g0 (Array.getElem?_eq_some_iff.1 c0).1 n02).trans c0
 have d1 := ((hs _ g2 x2).block g1 (Array.getElem?_eq_some_iff.1 c1).1 n12).trans c1
 have d2 := Go.heap_setCell_same _ g2 0 _ _ x2 c2
 have m : ∀ {g : Nat} {a w : World}, (g = g0 ∨ g = g1 ∨ g = g2) → ButG (fun x => x = g) a w → ButG (fun x => x = g0 ∨ x = g1 ∨ x = g2) a w := fun hg h => ⟨h.os, h.tape, h.output, h.size, fun k hk hn => h.block k hk fun e => hn (e ▸ hg)⟩
 exact ⟨d0, d1, d2, ((m (.inl rfl) (hs W g0 x0)).trans (m (.inr (.inl rfl)) (hs _ g1 x1)) fun _ h => .inl h).trans (m (.inr (.inr rfl)) (hs _ g2 x2)) fun _ h => .inl h⟩
def RanPost (fuel : Int) (w : World) (c p : Prop) : Ending → World → Prop := fun e w' =>
 ((∃ (r : Bool) (n : Int), e = .returned (.tuple #[.bool r, .int .i64 n, .int .i64 0]) ∧ (r = true ↔ p) ∧ 1 ≤ n) ∨ (e = .returned (.tuple #[.bool false, .int .i64 fuel, .int .i64 9]) ∧ c)) ∧ Below w.heap.size w w'
theorem ran_bool {F : Nat} {p1 p2 : Option Addr} {fuel : Int} {w : World} {c p : Prop} (hcf : ∀ (args : Array Value) (w : World), Sem.run Tryz.prog (callFunc F args) w = .ok (.enter F args) w)
  (KF : ∀ wx b m1 m2, Below w.heap.size w wx → w.heap.size ≤ b → wx.heap[b]? = some (runC fuel 0 m1 m2 (.slice none 0 0) 0) → Calls Tryz.prog F #[.pointer (some ⟨b, 0, none⟩), .pointer p1, .pointer p2] wx (FitPost b fuel 1 m1 m2 (.slice none 0 0) 0 wx c p)) :
  Calls Tryz.prog 26 #[.agg #[.slice none 0 0, .slice none 0 0, .int .i64 fuel], .func (.func F) #[] #[.pointer p1, .pointer p2]] w (RanPost fuel w c p) := by
 have hmf : ∀ (fn : Fn) (first cap : Array Value) (w : World), (Instr.makeFunc fn first cap).run Tryz.prog w = .ok (.func fn first cap) w := fun _ _ _ _ => rfl
 obtain ⟨w1, hw1⟩ : ∃ x, x = (((w.alloc (.cells #[.slice none 0 0, .slice none 0 0, .int .i64 fuel] 32)).alloc (.cells #[.bool false] 4)).alloc (.cells #[.int .i64 0] 3)).alloc (.cells #[.int .i64 0] 33) := ⟨_, rfl⟩
 obtain ⟨g, hg⟩ : ∃ x, x = w.heap.size := ⟨_, rfl⟩
 have hb1 : Below w.heap.size w w1 := by rw [hw1]; exact ((((Below.refl _ _).alloc (Nat.le_refl _) _).alloc (by simp) _).alloc (by simp; omega) _).alloc (by simp; omega) _
 have hs1 : w1.heap.size = g + 4 := by rw [hw1, hg]; simp
 have a0 : w1.heap[g]? = some (.cells #[.slice none 0 0, .slice none 0 0, .int .i64 fuel] 32 (0, 0)) := by
  rw [hw1, hg, Below.heap_alloc _ _ _ (by first | (simp; done) | (simp; omega)), Below.heap_alloc _ _ _ (by first | (simp; done) | (simp; omega)), Below.heap_alloc _ _ _ (by first | (simp; done) | (simp; omega))]; exact heap_alloc_new w _
 have a1 : w1.heap[g + 1]? = some (.cells #[.bool false] 4 (0, 0)) := by
  rw [hw1, hg, Below.heap_alloc _ _ _ (by first | (simp; done) | (simp; omega)), Below.heap_alloc _ _ _ (by first | (simp; done) | (simp; omega))]
  have h := heap_alloc_new (w.alloc (.cells #[.slice none 0 0, .slice none 0 0, .int .i64 fuel] 32)) (.cells #[.bool false] 4)
  rw [World.size_alloc] at h; exact h
 have a2 : w1.heap[g + 1 + 1]? = some (.cells #[.int .i64 0] 3 (0, 0)) := by
  rw [hw1, hg, Below.heap_alloc _ _ _ (by first | (simp; done) | (simp; omega))]
  have h := heap_alloc_new ((w.alloc (.cells #[.slice none 0 0, .slice none 0 0, .int .i64 fuel] 32)).alloc (.cells #[.bool false] 4)) (.cells #[.int .i64 0] 3)
  rw [World.size_alloc, World.size_alloc] at h; exact h
 have a3 : w1.heap[g + 1 + 1 + 1]? = some (.cells #[.int .i64 0] 33 (0, 0)) := by
  rw [hw1, hg]
  have h := heap_alloc_new (((w.alloc (.cells #[.slice none 0 0, .slice none 0 0, .int .i64 fuel] 32)).alloc (.cells #[.bool false] 4)).alloc (.cells #[.int .i64 0] 3)) (.cells #[.int .i64 0] 33)
  rw [World.size_alloc, World.size_alloc, World.size_alloc] at h; exact h
 have HA := Hd (And.intro a0 (And.intro a1 (And.intro a2 a3)))
 have HB1 := Hd hb1
 have HS1 := Hd hs1
 have HW1 := Hd hw1
 have HG := Hd hg
 have HKF := Hd KF
 have KN := Hd (newrun_none (fuel := fuel) w1)
 have x0 := Ch a0 0
 have x1 := Ch a0 1
 have x2 := Ch a0 2
 simp only [List.getElem?_toArray, List.getElem?_cons_zero, List.getElem?_cons_succ] at x0 x1 x2
 clear hb1 hs1 hw1 hg a0 a1 a2 a3 KF
 go_enter_defers Tryz.func26, Tryz.ntmps26
 go_upto_region 1 with fail
 rw [← HW1.out, ← HG.out]
 go_wp2_with fail
 refine KN.out.mono ?_
 rintro e2 w2 ⟨b, m1, m2, rfl, hr2, hlb, hb2⟩
 have HA2 := Hd (And.intro (box_up hb2 (Array.getElem?_eq_some_iff.1 HA.out.1).1 HA.out.1) (And.intro (box_up hb2 (Array.getElem?_eq_some_iff.1 HA.out.2.1).1 HA.out.2.1) (And.intro (box_up hb2 (Array.getElem?_eq_some_iff.1 HA.out.2.2.1).1 HA.out.2.2.1) (box_up hb2 (Array.getElem?_eq_some_iff.1 HA.out.2.2.2).1 HA.out.2.2.2))))
 have HB2 := Hd (HB1.out.trans (hb2.mono HB1.out.size))
 have HLB : Hid (g + 4 ≤ b) := Hd (by have := HS1.out; omega)
 have KC := Hd (HKF.out w2 b m1 m2 HB2.out (by have := HLB.out; have := HG.out; omega) hr2)
 clear hr2 hlb hb2 KN x0 x1 x2
 go_wp2_with fail
 refine KC.out.mono ?_
 rintro e3 w3 (⟨r, rfl, hr3, hu3⟩ | ⟨rfl, hc3, hb3⟩)
 ·obtain ⟨n, hn1, hn2, hr3', hb3⟩ := hu3
  have hne := HLB.out
  have hlt := (Array.getElem?_eq_some_iff.1 HA2.out.2.2.2).1
  have c1 := (hb3.block (g + 1) (by omega) (by omega)).trans HA2.out.2.1
  have c2 := (hb3.block (g + 1 + 1) (by omega) (by omega)).trans HA2.out.2.2.1
  have c3 := (hb3.block (g + 1 + 1 + 1) (by omega) (by omega)).trans HA2.out.2.2.2
  have q1 := Ch c1 0
  have z1 := Lib.frozen_of_heap c1 0
  simp only [List.getElem?_toArray, List.getElem?_cons_zero] at q1
  obtain ⟨w4, hw4⟩ : ∃ x, x = w3.setCell ⟨g + 1, 0, none⟩ (.bool r) := ⟨_, rfl⟩
  have hb4 : ButG (fun x => x = g + 1) w3 w4 := by rw [hw4]; exact ⟨rfl, rfl, rfl, by simp [World.setCell], fun k _ hn => Below.heap_setCell _ _ _ _ hn⟩
  have d1 : w4.heap[g + 1]? = some (.cells #[.bool r] 4 (0, 0)) := by rw [hw4]; exact Go.heap_setCell_same w3 (g + 1) 0 _ _ _ c1
  have d2 := (hb4.block (g + 1 + 1) (Array.getElem?_eq_some_iff.1 c2).1 (by omega)).trans c2
  have d3 := (hb4.block (g + 1 + 1 + 1) (Array.getElem?_eq_some_iff.1 c3).1 (by omega)).trans c3
  have d4 := (hb4.block b (Array.getElem?_eq_some_iff.1 hr3').1 (by omega)).trans hr3'
  unfold runC at d4
  have s1 := Ch d4 1
  have p1' := Ch d1 0
  have p2' := Ch d2 0
  have p3' := Ch d3 0
  simp only [List.getElem?_toArray, List.getElem?_cons_zero, List.getElem?_cons_succ] at s1 p1' p2' p3'
  have e1 := Lib.frozen_of_heap d1 0
  have e2 := Lib.frozen_of_heap d2 0
  have e3 := Lib.frozen_of_heap d3 0
  have l1 : ¬ b = g + 1 := by omega
  have l2 : ¬ b = g + 1 + 1 := by omega
  have l3 : ¬ b = g + 1 + 1 + 1 := by omega
  obtain ⟨w5, hw5⟩ : ∃ x, x = ((w4.setCell ⟨g + 1, 0, none⟩ (.bool r)).setCell ⟨g + 1 + 1, 0, none⟩ (.int .i64 n)).setCell ⟨g + 1 + 1 + 1, 0, none⟩ (.int .i64 0) := ⟨_, rfl⟩
  have hz := three_put d1 d2 d3 (by omega) (by omega) (by omega) (.bool r) (.int .i64 n) (.int .i64 0)
  rw [← hw5] at hz
  have HZ := Hd hz
  have HFIN : Hid (∀ w6, Below w5.heap.size w5 w6 → RanPost fuel w c p (.returned (.tuple #[.bool r, .int .i64 n, .int .i64 0])) w6) := Hd fun w6 h6 => by
   refine ⟨.inl ⟨r, n, rfl, hr3, hn1⟩, ?_⟩
   have h23 : Below w.heap.size w2 w3 := hb3.below HB2.out.size fun x hx => by have := HG.out; omega
   have h34 : Below w.heap.size w3 w4 := hb4.below (Nat.le_trans HB2.out.size hb3.size) fun x hx => by have := HG.out; omega
   have h45 : Below w.heap.size w4 w5 := hz.2.2.2.below (Nat.le_trans (Nat.le_trans HB2.out.size hb3.size) hb4.size) fun x hx => by have := HG.out; omega
   exact (((HB2.out.trans h23).trans h34).trans h45).trans (h6.mono (Nat.le_trans (Nat.le_trans (Nat.le_trans HB2.out.size hb3.size) hb4.size) hz.2.2.2.size))
  have HW4 := Hd hw4
  have HW5 := Hd hw5
  clear hr3 hn1 hn2 hr3' hb3 hne hlt c1 c2 c3 hw4 hb4 d1 d2 d3 d4 hw5 hz KC
  go_upto_region 4 with fail
  rw [← HW4.out]
  clear q1 z1
  go_region
  rw [← HW5.out]
  go_wp2_with fail
  refine leaves_cons (f := 57) (args := #[.pointer (some ⟨g + 1, 0, none⟩), .pointer (some ⟨g + 1 + 1, 0, none⟩), .pointer (some ⟨g + 1 + 1 + 1, 0, none⟩), .pointer (some ⟨g, 0, none⟩)]) (by simp) (by simp [go_sem]) ?_
  refine (ran_idle_b _ _ _ _ _).mono ?_
  rintro e8 u8 w8 ⟨rfl, rfl, hb8⟩
  have v1 := Ch ((hb8.block (g + 1) (Array.getElem?_eq_some_iff.1 HZ.out.1).1).trans HZ.out.1) 0
  have v2 := Ch ((hb8.block (g + 1 + 1) (Array.getElem?_eq_some_iff.1 HZ.out.2.1).1).trans HZ.out.2.1) 0
  have v3 := Ch ((hb8.block (g + 1 + 1 + 1) (Array.getElem?_eq_some_iff.1 HZ.out.2.2.1).1).trans HZ.out.2.2.1) 0
  simp only [List.getElem?_toArray, List.getElem?_cons_zero] at v1 v2 v3
  have HF := Hd (HFIN.out w8 ((Below.refl w5.heap.size w5).drew.trans hb8))
  simp [Leaves, settle, results, Tryz.results26, go_sem, v1, v2, v3]
  exact HF.out
 ·have hne := HLB.out
  have hlt := (Array.getElem?_eq_some_iff.1 HA2.out.2.2.2).1
  have c0 := (hb3.block g (by omega) (by omega)).trans HA2.out.1
  have c1 := (hb3.block (g + 1) (by omega) (by omega)).trans HA2.out.2.1
  have c2 := (hb3.block (g + 1 + 1) (by omega) (by omega)).trans HA2.out.2.2.1
  have c3 := (hb3.block (g + 1 + 1 + 1) (by omega) (by omega)).trans HA2.out.2.2.2
  have KR := Hd (ran_catch_b [] c1 c2 c3 c0 (by omega) (by omega) (by omega) (by omega) (by omega) (by omega))
  have h23 : Below w.heap.size w2 w3 := hb3.below HB2.out.size fun x hx => by have := HG.out; omega
  have HB3 := Hd (HB2.out.trans h23)
  have HC3 := Hd hc3
  clear hne hlt c0 c1 c2 c3 hb3 hc3 h23 KC
  go_wp2_with fail
  refine leaves_cons (f := 57) (args := #[.pointer (some ⟨g + 1, 0, none⟩), .pointer (some ⟨g + 1 + 1, 0, none⟩), .pointer (some ⟨g + 1 + 1 + 1, 0, none⟩), .pointer (some ⟨g, 0, none⟩)]) (by simp) (by simp [go_sem]) ?_
  refine KR.out.mono ?_
  rintro e8 u8 w8 ⟨rfl, rfl, v1, v2, v3, hb8⟩
  have HF : Hid (RanPost fuel w c p (.returned (.tuple #[.bool false, .int .i64 fuel, .int .i64 9])) w8) := Hd ⟨.inr ⟨rfl, HC3.out⟩, HB3.out.trans (hb8.below HB3.out.size fun x hx => by have := HG.out; omega)⟩
  simp [Leaves, settle, results, Tryz.results26, go_sem, v1, v2, v3]
  exact HF.out
theorem row_fit {K K' : Nat → Prop} {w : World} {s t : Ty} {cs ds : List Value} {b : Nat} {fuel lo rows : Int} {m1 m2 : Option Nat} {asked : Value} (hr : RepT K w s cs) (hp : RepT K' w t ds) (hgs : GdT s) (hgt : GdT t) (hK : ∀ x, K x → x < w.heap.size ∧ x ≠ b) (hK' : ∀ x, K' x → x < w.heap.size ∧ x ≠ b) (hI : RunI b fuel lo m1 m2 asked rows w w) (hN : FitN b fuel lo m1 m2 asked rows) :
  Calls Tryz.prog 96 #[.pointer (some ⟨b, 0, none⟩), .agg cs.toArray, .agg ds.toArray] w (FitPost b fuel lo m1 m2 asked rows w (DeepT s t) (RowF s t)) := by
 have hbl : b < w.heap.size := by obtain ⟨_, _, _, h, _⟩ := hI; exact (Array.getElem?_eq_some_iff.1 h).1
 obtain ⟨w1, g0, g1, g2, HW1, HG0, HG1, HG2, hb1, hs1, h0, hx, hy⟩ := box_three w b cs ds
 have hb1' := ButG.of_below (O := fun x => x = b) hb1
 obtain ⟨PO, hPO⟩ : ∃ PO : Ending → World → Prop, PO = FitPost b fuel lo m1 m2 asked rows w (DeepT s t) (RowF s t) := ⟨_, rfl⟩
 have HYES : Hid (∀ (r : Bool) w', (r = true ↔ RowF s t) → RunI b fuel lo m1 m2 asked rows w w' → PO (.returned (.bool r)) w') := Hd fun r w' h1 h2 => by rw [hPO]; exact .inl ⟨r, rfl, h1, h2⟩
 have HNO : Hid (∀ w', DeepT s t → ButG (fun x => x = b) w w' → PO (.panicked [{ v := stopV, recovered := false }]) w') := Hd fun w' h1 h2 => by rw [hPO]; exact .inr ⟨rfl, h1, h2⟩
 rw [← hPO]
 have hI1 := hI.below hb1
 have hu1 := hI1.self
 have hK1 : ∀ x, K x → x < w1.heap.size ∧ x ≠ b := fun x hx => ⟨by have := (hK x hx).1; omega, (hK x hx).2⟩
 have hK1' : ∀ x, K' x → x < w1.heap.size ∧ x ≠ b := fun x hx => ⟨by have := (hK' x hx).1; omega, (hK' x hx).2⟩
 have hr1 := hr.later hb1
 have hp1 := hp.later hb1
 -- what is asked by its kinds
 have hfunc : s.k = 13 → t.k = 13 → Calls Tryz.prog 135 #[.pointer (some ⟨b, 0, none⟩), .agg cs.toArray, .agg ds.toArray] w1 (FitPost b fuel lo m1 m2 asked rows w1 True (FnF s t)) := fun h1 h2 => by
  have l1 := func_some hgs.1 h1
  have l2 := func_some hgt.1 h2
  exact function_fit (m := s.ps.length - 1) (l2 := t.ps.length - 1) hr1 hp1 ⟨(smp_get hgs.2).2.1, (smp_get hgt.2).2.1⟩ (by omega) (by omega) hK1 hK1' hu1 (fun p hp q hq => hN.at hK1 hK1' (hgs.part hp) (hgt.part hq)) fun p hp q hq => hN.at hK1' hK1 (hgt.part hq) (hgs.part hp)
 have hobj : s.k = 14 → t.k = 14 → Calls Tryz.prog 136 #[.pointer (some ⟨b, 0, none⟩), .agg cs.toArray, .agg ds.toArray] w1 (FitPost b fuel lo m1 m2 asked rows w1 (t.fs ≠ []) (ObF s t)) := fun h1 h2 =>
  object_fit hr1 hp1 (names_once hgs.1 h1) (field_flags hgs.1 h1) (field_flags hgt.1 h2) hK1 hK1' hu1 (fun g hg f hf => hN.at hK1 hK1' (hgs.field hg) (hgt.field hf)) fun g hg f hf => hN.at hK1' hK1 (hgt.field hf) (hgs.field hg)
 have harr : t.k = 11 → ∃ q, t.ps = [q] := fun h => by
  obtain ⟨k2, s2, n2, ps2, fs2, vs2⟩ := t
  obtain rfl : k2 = 11 := h
  exact form_11 hgt.1
 obtain ⟨sv, hsv⟩ : ∃ x, x = s := ⟨_, rfl⟩
 obtain ⟨tv, htv⟩ : ∃ x, x = t := ⟨_, rfl⟩
 obtain ⟨k, s, n, ps, fs, vs⟩ := s
 obtain ⟨A, c, B, d, C, e, rfl, -, hL, -⟩ := hr1.inv
 obtain ⟨k2, s2, n2, ps2, fs2, vs2⟩ := t
 obtain ⟨A2, c2, B2, d2, C2, e2, rfl, -, hM, -⟩ := hp1.inv
 have hsk : sv.k = k ∧ sv.ps = ps ∧ sv.fs = fs := by rw [hsv]; exact ⟨rfl, rfl, rfl⟩
 have htk : tv.k = k2 ∧ tv.ps = ps2 ∧ tv.fs = fs2 := by rw [htv]; exact ⟨rfl, rfl, rfl⟩
 rw [← hsv, ← htv] at HYES HNO hfunc hobj
 rw [← hsv] at hgs
 rw [← htv] at hgt harr
 have hcf : ∀ (args : Array Value) (w : World), Sem.run Tryz.prog (callFunc 133 args) w = .ok (.enter 133 args) w := fun args w => by go_simp
 have hall : ∀ q, tv.ps = [q] → Calls Tryz.prog 88 #[.slice A ps.length c, .func (.func 133) #[] #[.pointer (some ⟨g0, 0, none⟩), .pointer (some ⟨g2, 0, none⟩)]] w1 (FitPost b fuel lo m1 m2 asked rows w1 (ps ≠ []) (∀ p ∈ ps, Fit p q)) := fun q hq => by
  refine all_fit (fun p => Fit p q) hcf hL hK1 hu1 fun p hp wx es hu hre => ?_
  have hq2 : ps2 = [q] := htk.2.1.symm.trans hq
  have hpm : p ∈ sv.ps := by rw [hsk.2.1]; exact hp
  refine clo_r1 hre (hp1.but hu.but fun x hx => ⟨(hK1' x hx).2, hx⟩) (u := q) (by show ps2[0]? = some q; rw [hq2]; rfl) ⟨Nat.lt_of_lt_of_le (by omega) hu.but.size, by omega, by omega, fun x hx => (hK1' x hx).2⟩ ((hu.but.block g0 (by omega) (by omega)).trans h0) ((hu.but.block g2 (by omega) (by omega)).trans hy) fun wy es' hy' hre' => ?_
  exact hN K K' wy p q _ _ (hre.later hy') hre' (fun x hx => ⟨Nat.lt_of_lt_of_le (hK1 x hx).1 (Nat.le_trans hu.but.size hy'.size), (hK1 x hx).2⟩) (fun x hx => ⟨Nat.lt_of_lt_of_le (hK1' x hx).1 (Nat.le_trans hu.but.size hy'.size), (hK1' x hx).2⟩) (hgs.part hpm) (hgt.part (by rw [hq]; simp)) (hu.self.below hy').self
 have heach : ps.length = ps2.length → Calls Tryz.prog 134 #[.pointer (some ⟨b, 0, none⟩), .slice A ps.length c, .slice A2 ps2.length c2] w1 (FitPost b fuel lo m1 m2 asked rows w1 (ps ≠ []) (∀ (i : Nat) (p q : Ty), ps[i]? = some p → ps2[i]? = some q → Fit p q)) := fun hl =>
  each_fit Fit hL hM (by omega) hK1 hK1' hu1 fun i p q h1 h2 => hN.at hK1 hK1' (hgs.part (by rw [hsk.2.1]; exact List.mem_of_getElem? h1)) (hgt.part (by rw [htk.2.1]; exact List.mem_of_getElem? h2))
 simp only [cells6T] at hx hy HW1 hfunc hobj ⊢
 have r0 := Ch h0 0
 simp only [List.getElem?_toArray, List.getElem?_cons_zero] at r0
 obtain ⟨x0, x1, x2, x3, x4, x5⟩ := cz6 hx
 obtain ⟨y0, y1, y2, y3, y4, y5⟩ := cz6 hy
 have HB1 := Hd hb1'
 have HI1 := Hd hI1
 replace HW1 := Hd HW1
 replace HG0 := Hd HG0
 replace HG1 := Hd HG1
 replace HG2 := Hd HG2
 have HSK := Hd hsk
 have HTK := Hd htk
 have HFN := Hd hfunc
 have HOB := Hd hobj
 have HAR := Hd harr
 have HDP : Hid (tv.k = 13 → DeepT sv tv) := Hd fun h => .inr (.inl fun e => by have := func_some hgt.1 h; rw [e] at this; simp at this)
 have HAL := Hd hall
 have HEA := Hd heach
 clear hr hp hgs hgt hK hK' hI hN hbl hb1 hs1 h0 hx hy hb1' hI1 hu1 hK1 hK1' hr1 hp1 hfunc hobj harr hsv htv hL hM hsk htk hcf hall heach hPO
 go_enter Tryz.func96, Tryz.ntmps96
 go_upto_region 1 with fail
 rw [HW1.out, HG0.out, HG1.out, HG2.out]
 by_cases h7 : k2 = 7
 ·subst h7
  have HE : Hid (∀ r : Bool, r = (k == 9) → (r = true ↔ RowF sv tv)) := Hd fun r e => by rw [e, row_7 HTK.out.1, HSK.out.1, beq_iff_eq]
  go_wp2_with fail
  exact HYES.out _ _ (HE.out _ rfl) HI1.out
 by_cases h8 : k2 = 8
 ·subst h8
  have HE : Hid (∀ r : Bool, r = (k == 10) → (r = true ↔ RowF sv tv)) := Hd fun r e => by rw [e, row_8 HTK.out.1, HSK.out.1, beq_iff_eq]
  clear h7
  go_wp2_with fail
  exact HYES.out _ _ (HE.out _ rfl) HI1.out
 by_cases h11 : k2 = 11
 ·subst h11
  clear h7 h8
  obtain ⟨q, hq⟩ := HAR.out HTK.out.1
  have HR : Hid (RowF sv tv ↔ (k = 11 ∨ k = 12) ∧ ∀ p ∈ ps, Fit p q) := Hd (by rw [row_11 HTK.out.1 (q := q) (by rw [hq]; rfl), HSK.out.1, HSK.out.2.1])
  have KX := Hd (HAL.out q hq)
  have HDT : Hid (DeepT sv tv) := Hd (.inr (.inl (by rw [hq]; simp)))
  clear hq
  by_cases k11 : k = 11
  ·have HK11 : Hid (k = 11 ∨ k = 12) := Hd (.inl k11)
   have tk : (k == 11) = true := by simp [k11]
   clear k11
   go_wp2_with fail
   refine KX.out.mono ?_
   rintro e5 w5 (⟨r, rfl, hr5, hu5⟩ | ⟨rfl, hc5, hb5⟩)
   ·have HFIN : Hid (∀ r' : Bool, r' = r → PO (.returned (.bool r')) w5) := Hd fun r' e => by rw [e]; exact HYES.out r w5 (hr5.trans ⟨fun h => HR.out.2 ⟨HK11.out, h⟩, fun h => (HR.out.1 h).2⟩) (RunI.trans HB1.out hu5 (Int.le_refl _))
    clear hr5 hu5 KX
    go_wp2_with fail
    exact HFIN.out _ rfl
   ·have HFIN : Hid (PO (.panicked [{ v := stopV, recovered := false }]) w5) := Hd (HNO.out _ (HDT.out) (HB1.out.same hb5))
    clear hb5 hc5
    go_wp2_with fail
    first | exact HFIN.out | (simp only [bodyPost]; exact ⟨trivial, HFIN.out⟩)
  by_cases k12 : k = 12
  ·have HK11 : Hid (k = 11 ∨ k = 12) := Hd (.inr k12)
   have tk : (k == 11) = false := by simp [k11]
   have tk2 : (k == 12) = true := by simp [k12]
   clear k11 k12
   go_wp2_with fail
   refine KX.out.mono ?_
   rintro e5 w5 (⟨r, rfl, hr5, hu5⟩ | ⟨rfl, hc5, hb5⟩)
   ·have HFIN : Hid (∀ r' : Bool, r' = r → PO (.returned (.bool r')) w5) := Hd fun r' e => by rw [e]; exact HYES.out r w5 (hr5.trans ⟨fun h => HR.out.2 ⟨HK11.out, h⟩, fun h => (HR.out.1 h).2⟩) (RunI.trans HB1.out hu5 (Int.le_refl _))
    clear hr5 hu5 KX
    go_wp2_with fail
    exact HFIN.out _ rfl
   ·have HFIN : Hid (PO (.panicked [{ v := stopV, recovered := false }]) w5) := Hd (HNO.out _ (HDT.out) (HB1.out.same hb5))
    clear hb5 hc5
    go_wp2_with fail
    first | exact HFIN.out | (simp only [bodyPost]; exact ⟨trivial, HFIN.out⟩)
  have HNR : Hid (¬ RowF sv tv) := Hd fun h => (HR.out.1 h).1.elim k11 k12
  have tk : (k == 11) = false := by simp [k11]
  have tk2 : (k == 12) = false := by simp [k12]
  clear k11 k12 KX
  go_wp2_with fail
  exact HYES.out _ _ (iff_of_false (by decide) HNR.out) HI1.out
 by_cases h12 : k2 = 12
 ·subst h12
  clear h7 h8 h11
  have HR : Hid (RowF sv tv ↔ k = 12 ∧ ps.length = ps2.length ∧ ∀ (i : Nat) (p q : Ty), ps[i]? = some p → ps2[i]? = some q → Fit p q) := Hd (by rw [row_12 HTK.out.1, HSK.out.1, HSK.out.2.1, HTK.out.2.1])
  by_cases k12 : k = 12
  ·by_cases hl : ps.length = ps2.length
   ·have KX := Hd (HEA.out hl)
    have HK11 := Hd (And.intro k12 hl)
    have tk : (k == 12) = true := by simp [k12]
    have tl : ((ps.length : Int) == (ps2.length : Int)) = true := by rw [beq_iff_eq]; omega
    have tl2 : (ps.length == ps2.length) = true := by rw [beq_iff_eq]; exact hl
    clear k12 hl
    go_wp2_with fail
    refine KX.out.mono ?_
    rintro e5 w5 (⟨r, rfl, hr5, hu5⟩ | ⟨rfl, hc5, hb5⟩)
    ·have HFIN : Hid (∀ r' : Bool, r' = r → PO (.returned (.bool r')) w5) := Hd fun r' e => by rw [e]; exact HYES.out r w5 (hr5.trans ⟨fun h => HR.out.2 ⟨HK11.out.1, HK11.out.2, h⟩, fun h => (HR.out.1 h).2.2⟩) (RunI.trans HB1.out hu5 (Int.le_refl _))
     clear hr5 hu5 KX
     go_wp2_with fail
     exact HFIN.out _ rfl
    ·have HFIN : Hid (PO (.panicked [{ v := stopV, recovered := false }]) w5) := Hd (HNO.out _ (.inl (by rw [HSK.out.2.1]; exact hc5)) (HB1.out.same hb5))
     clear hb5 hc5
     go_wp2_with fail
     first | exact HFIN.out | (simp only [bodyPost]; exact ⟨trivial, HFIN.out⟩)
   ·have HNR : Hid (¬ RowF sv tv) := Hd fun h => hl (HR.out.1 h).2.1
    have tk : (k == 12) = true := by simp [k12]
    have tl : ((ps.length : Int) == (ps2.length : Int)) = false := by rw [beq_eq_false_iff_ne]; omega
    have tl2 : (ps.length == ps2.length) = false := by rw [beq_eq_false_iff_ne]; exact hl
    clear k12 hl
    go_wp2_with fail
    exact HYES.out _ _ (iff_of_false (by decide) HNR.out) HI1.out
  ·have HNR : Hid (¬ RowF sv tv) := Hd fun h => k12 (HR.out.1 h).1
   have tk : (k == 12) = false := by simp [k12]
   clear k12
   go_wp2_with fail
   exact HYES.out _ _ (iff_of_false (by decide) HNR.out) HI1.out
 by_cases h13 : k2 = 13
 ·subst h13
  clear h7 h8 h11 h12
  have HR : Hid (RowF sv tv ↔ k = 13 ∧ FnF sv tv) := Hd (by rw [row_13 HTK.out.1, HSK.out.1])
  by_cases k13 : k = 13
  ·have KX := Hd (HFN.out (HSK.out.1.trans k13) HTK.out.1)
   have HDT : Hid (DeepT sv tv) := Hd (HDP.out HTK.out.1)
   have HK11 := Hd k13
   have tk : (k == 13) = true := by simp [k13]
   clear k13
   go_wp2_with fail
   refine KX.out.mono ?_
   rintro e5 w5 (⟨r, rfl, hr5, hu5⟩ | ⟨rfl, hc5, hb5⟩)
   ·have HFIN : Hid (∀ r' : Bool, r' = r → PO (.returned (.bool r')) w5) := Hd fun r' e => by rw [e]; exact HYES.out r w5 (hr5.trans ⟨fun h => HR.out.2 ⟨HK11.out, h⟩, fun h => (HR.out.1 h).2⟩) (RunI.trans HB1.out hu5 (Int.le_refl _))
    clear hr5 hu5 KX
    go_wp2_with fail
    exact HFIN.out _ rfl
   ·have HFIN : Hid (PO (.panicked [{ v := stopV, recovered := false }]) w5) := Hd (HNO.out _ (HDT.out) (HB1.out.same hb5))
    clear hb5 hc5
    go_wp2_with fail
    first | exact HFIN.out | (simp only [bodyPost]; exact ⟨trivial, HFIN.out⟩)
  ·have HNR : Hid (¬ RowF sv tv) := Hd fun h => k13 (HR.out.1 h).1
   have tk : (k == 13) = false := by simp [k13]
   clear k13
   go_wp2_with fail
   exact HYES.out _ _ (iff_of_false (by decide) HNR.out) HI1.out
 by_cases h14 : k2 = 14
 ·subst h14
  clear h7 h8 h11 h12 h13
  have HR : Hid (RowF sv tv ↔ k = 14 ∧ ObF sv tv) := Hd (by rw [row_14 HTK.out.1, HSK.out.1])
  by_cases k14 : k = 14
  ·have KX := Hd (HOB.out (HSK.out.1.trans k14) HTK.out.1)
   have HK11 := Hd k14
   have tk : (k == 14) = true := by simp [k14]
   clear k14
   go_wp2_with fail
   refine KX.out.mono ?_
   rintro e5 w5 (⟨r, rfl, hr5, hu5⟩ | ⟨rfl, hc5, hb5⟩)
   ·have HFIN : Hid (∀ r' : Bool, r' = r → PO (.returned (.bool r')) w5) := Hd fun r' e => by rw [e]; exact HYES.out r w5 (hr5.trans ⟨fun h => HR.out.2 ⟨HK11.out, h⟩, fun h => (HR.out.1 h).2⟩) (RunI.trans HB1.out hu5 (Int.le_refl _))
    clear hr5 hu5 KX
    go_wp2_with fail
    exact HFIN.out _ rfl
   ·have HFIN : Hid (PO (.panicked [{ v := stopV, recovered := false }]) w5) := Hd (HNO.out _ (.inr (.inr hc5)) (HB1.out.same hb5))
    clear hb5 hc5
    go_wp2_with fail
    first | exact HFIN.out | (simp only [bodyPost]; exact ⟨trivial, HFIN.out⟩)
  ·have HNR : Hid (¬ RowF sv tv) := Hd fun h => k14 (HR.out.1 h).1
   have tk : (k == 14) = false := by simp [k14]
   clear k14
   go_wp2_with fail
   exact HYES.out _ _ (iff_of_false (by decide) HNR.out) HI1.out
 have HNR : Hid (¬ RowF sv tv) := Hd (row_no (by rw [HTK.out.1]; exact h7) (by rw [HTK.out.1]; exact h8) (by rw [HTK.out.1]; exact h11) (by rw [HTK.out.1]; exact h12) (by rw [HTK.out.1]; exact h13) (by rw [HTK.out.1]; exact h14))
 have t7 : (k2 == 7) = false := by simp [h7]
 have t8 : (k2 == 8) = false := by simp [h8]
 have t11 : (k2 == 11) = false := by simp [h11]
 have t12 : (k2 == 12) = false := by simp [h12]
 have t13 : (k2 == 13) = false := by simp [h13]
 have t14 : (k2 == 14) = false := by simp [h14]
 clear h7 h8 h11 h12 h13 h14
 go_wp2_with fail
 exact HYES.out _ _ (iff_of_false (by decide) HNR.out) HI1.out
theorem formed_ref {K : Nat → Prop} {w : World} {t : Ty} {cs : List Value} (hr : RepT K w t cs) :
  Calls Tryz.prog 12 #[.agg cs.toArray] w fun e w' => e = .returned (.bool (formedT t)) ∧ Below w.heap.size w w' := by
 have hN := nod_any t
 have hFo := form_ref t
 have hsp : formedT t = (decide (cntT t ≤ 4096) && formT t) := rfl
 generalize hft : formT t = r at hsp
 obtain ⟨k, s, n, ps, fs, vs⟩ := t
 have KN := Hd fun wx (hx : Below w.heap.size w wx) => hN K wx cs (hr.later hx)
 have KF := Hd fun wx (hx : Below w.heap.size w wx) h => hFo K wx cs (hr.later hx) h
 obtain ⟨A, c, A', c', A'', c'', rfl, -⟩ := hr.inv
 simp only [cells6T] at KN KF ⊢
 rw [hft] at KF
 obtain ⟨w1, hw1⟩ : ∃ x, x = w.alloc (.cells #[.int .i64 k, .string s, .int .i64 n, .slice A ps.length c, .slice A' fs.length c', .slice A'' vs.length c''] 26) := ⟨_, rfl⟩
 have hb1 : Below w.heap.size w w1 := by rw [hw1]; exact (Below.refl _ _).alloc (Nat.le_refl _) _
 have hs1 : w1.heap.size = w.heap.size + 1 := by rw [hw1]; simp
 have hx0 : w1.heap[w.heap.size]? = some (.cells #[.int .i64 k, .string s, .int .i64 n, .slice A ps.length c, .slice A' fs.length c', .slice A'' vs.length c''] 26 (0, 0)) := by rw [hw1]; exact heap_alloc_new w _
 have HB1 := Hd hb1
 have HS1 := Hd hs1
 have HX0 := Hd hx0
 have HW1 := Hd hw1
 have HSP := Hd hsp
 generalize cntT (.mk k s n ps fs vs) = q at KN KF HSP
 clear hr hN hFo hb1 hs1 hx0 hw1 hsp hft
 go_enter Tryz.func12, Tryz.ntmps12
 go_upto_region 1 with fail
 rw [← HW1.out]
 obtain ⟨x0, x1, x2, x3, x4, x5⟩ := cz6 HX0.out
 go_wp2_with fail
 refine (KN.out _ HB1.out).mono ?_
 rintro e w2 ⟨rfl, hg⟩
 have HB2 := Hd (HB1.out.trans (hg.below.mono HB1.out.size))
 have h2 := box_up hg.below (by have := HS1.out; omega) HX0.out
 clear x0 x1 x2 x3 x4 x5 hg KN
 obtain ⟨x0, x1, x2, x3, x4, x5⟩ := cz6 h2
 clear h2
 by_cases hq : q ≤ 4096
 ·have t1 : decide ((capN q : Int) ≤ 4096) = true := decide_eq_true (by unfold capN; omega)
  have t2 : decide (capN q ≤ 4096) = true := decide_eq_true (by unfold capN; omega)
  have KF2 := Hd (KF.out _ HB2.out (by omega))
  have HV : Hid (formedT (.mk k s n ps fs vs) = r) := Hd (by rw [HSP.out, decide_eq_true hq]; rfl)
  clear hq KF
  go_wp2_with fail
  refine KF2.out.mono ?_
  rintro e w3 ⟨rfl, hb3⟩
  have HB3 := Hd (HB2.out.trans (hb3.mono HB2.out.size))
  clear hb3 KF2
  go_wp2_with fail
  go_ret
  exact ⟨by rw [HV.out]; rfl, HB3.out⟩
 ·have t1 : decide ((capN q : Int) ≤ 4096) = false := decide_eq_false (by unfold capN; omega)
  have t2 : decide (capN q ≤ 4096) = false := decide_eq_false (by unfold capN; omega)
  have HV : Hid (formedT (.mk k s n ps fs vs) = false) := Hd (by rw [HSP.out, decide_eq_false hq]; rfl)
  clear hq KF
  go_wp2_with fail
  go_ret
  exact ⟨by rw [HV.out]; rfl, HB2.out⟩
theorem RanPost.any {fuel : Int} {w : World} {c p : Prop} {e : Ending} {w' : World} (h : RanPost fuel w c p e w') : ∃ (r : Bool) (n ev : Int), e = .returned (.tuple #[.bool r, .int .i64 n, .int .i64 ev]) ∧ ((ev = 0 ∧ (r = true ↔ p)) ∨ ev = 9) ∧ Below w.heap.size w w' := by
 obtain ⟨⟨r, n, he, hr, -⟩ | ⟨he, -⟩, hb⟩ := h
 ·exact ⟨r, n, 0, he, .inl ⟨rfl, hr⟩, hb⟩
 ·exact ⟨false, fuel, 9, he, .inr rfl, hb⟩
theorem box_three_t (w : World) (zs bs cs : List Value) : ∃ (w1 : World) (g0 g1 g2 : Nat), ((w.alloc (.cells zs.toArray 26)).alloc (.cells bs.toArray 26)).alloc (.cells cs.toArray 26) = w1 ∧ w.heap.size = g0 ∧ g0 + 1 = g1 ∧ g1 + 1 = g2 ∧ Below w.heap.size w w1 ∧ w1.heap.size = w.heap.size + 3 ∧ w1.heap[g0]? = some (.cells zs.toArray 26 (0, 0)) ∧ w1.heap[g1]? = some (.cells bs.toArray 26 (0, 0)) ∧ w1.heap[g2]? = some (.cells cs.toArray 26 (0, 0)) := by
 obtain ⟨w1, g1, g2, h1, h2, h3, h4, h5, h6, h7⟩ := box_two (w.alloc (.cells zs.toArray 26)) bs cs
 rw [World.size_alloc] at h2 h5
 have hb : Below w.heap.size w (w.alloc (.cells zs.toArray 26)) := (Below.refl _ _).alloc (Nat.le_refl _) _
 exact ⟨w1, _, g1, g2, h1, rfl, h2, h3, hb.trans (h4.mono (by rw [World.size_alloc]; omega)), by omega, box_up h4 (by rw [World.size_alloc]; omega) (heap_alloc_new w _), h6, h7⟩
theorem formed_get {t : Ty} (h : formedT t = true) : formT t = true := by
 unfold formedT at h
 rw [Bool.and_eq_true] at h
 exact h.2
end Go.Proofs.YtgjblmlibhppiaaGreatDoor
