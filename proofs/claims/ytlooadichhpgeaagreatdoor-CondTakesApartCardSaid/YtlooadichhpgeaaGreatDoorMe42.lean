import Derived.Test.YtlooadichhpgeaaGreatDoorMe31
import Derived.Test.YtlooadichhpgeaaGreatDoorMe32
import Derived.Test.YtlooadichhpgeaaGreatDoorMe33
import Derived.Test.YtlooadichhpgeaaGreatDoorMe34
import Derived.Test.YtlooadichhpgeaaGreatDoorMe35
import Derived.Test.YtlooadichhpgeaaGreatDoorMe36
import Derived.Test.YtlooadichhpgeaaGreatDoorMe37
import Derived.Test.YtlooadichhpgeaaGreatDoorMe38
import Derived.Test.YtlooadichhpgeaaGreatDoorMe39
import Derived.Test.YtlooadichhpgeaaGreatDoorMe40
import Derived.Test.YtlooadichhpgeaaGreatDoorMe41
namespace Go.Proofs.YtlooadichhpgeaaGreatDoor
open Go.RowKit
theorem form_step15 (t : ByteArray) (n : Int) (ps : List Ty) (fs : List (ByteArray × Int × Ty)) (vs : List (ByteArray × List Ty)) (hp : ∀ p ∈ ps, FormR p) (hf : ∀ f ∈ fs, FormR f.2.2) (hv : ∀ v ∈ vs, ∀ b ∈ v.2, FormR b) (hnf : fs.length = 0) (hnv : vs.length = 0) (hpa : ps.all formT = true) : FormR (.mk 15 t n ps fs vs) := by
 by_cases ht0 : t.toList = []
 ·by_cases hn0 : n = 0
  ·by_cases hnp : 2 ≤ ps.length
   ·exact form_15y t n ps fs vs hp hf hv hnf hnv hpa ht0 hn0 hnp
   ·exact form_15p t n ps fs vs hp hf hv hnf hnv hpa ht0 hn0 hnp
  ·exact form_15n t n ps fs vs hp hf hv hnf hnv hpa ht0 hn0
 ·obtain ⟨a0, l0, h⟩ := List.exists_cons_of_ne_nil ht0
  exact form_15t t n ps fs vs hp hf hv hnf hnv hpa a0 l0 h
theorem form_step1 (t : ByteArray) (n : Int) (ps : List Ty) (fs : List (ByteArray × Int × Ty)) (vs : List (ByteArray × List Ty)) (hp : ∀ p ∈ ps, FormR p) (hf : ∀ f ∈ fs, FormR f.2.2) (hv : ∀ v ∈ vs, ∀ b ∈ v.2, FormR b) (hnf : fs.length = 0) (hnv : vs.length = 0) (hpa : ps.all formT = true) : FormR (.mk 1 t n ps fs vs) := by
 by_cases ht0 : t.toList = []
 ·by_cases hn0 : n = 0
  ·by_cases hnp : ps.length = 0
   ·exact form_1y t n ps fs vs hp hf hv hnf hnv hpa ht0 hn0 hnp
   ·exact form_1p t n ps fs vs hp hf hv hnf hnv hpa ht0 hn0 hnp
  ·exact form_1n t n ps fs vs hp hf hv hnf hnv hpa ht0 hn0
 ·obtain ⟨a0, l0, h⟩ := List.exists_cons_of_ne_nil ht0
  exact form_1t t n ps fs vs hp hf hv hnf hnv hpa a0 l0 h
theorem form_step2 (t : ByteArray) (n : Int) (ps : List Ty) (fs : List (ByteArray × Int × Ty)) (vs : List (ByteArray × List Ty)) (hp : ∀ p ∈ ps, FormR p) (hf : ∀ f ∈ fs, FormR f.2.2) (hv : ∀ v ∈ vs, ∀ b ∈ v.2, FormR b) (hnf : fs.length = 0) (hnv : vs.length = 0) (hpa : ps.all formT = true) : FormR (.mk 2 t n ps fs vs) := by
 by_cases ht0 : t.toList = []
 ·by_cases hn0 : n = 0
  ·by_cases hnp : ps.length = 0
   ·exact form_2y t n ps fs vs hp hf hv hnf hnv hpa ht0 hn0 hnp
   ·exact form_2p t n ps fs vs hp hf hv hnf hnv hpa ht0 hn0 hnp
  ·exact form_2n t n ps fs vs hp hf hv hnf hnv hpa ht0 hn0
 ·obtain ⟨a0, l0, h⟩ := List.exists_cons_of_ne_nil ht0
  exact form_2t t n ps fs vs hp hf hv hnf hnv hpa a0 l0 h
theorem form_step3 (t : ByteArray) (n : Int) (ps : List Ty) (fs : List (ByteArray × Int × Ty)) (vs : List (ByteArray × List Ty)) (hp : ∀ p ∈ ps, FormR p) (hf : ∀ f ∈ fs, FormR f.2.2) (hv : ∀ v ∈ vs, ∀ b ∈ v.2, FormR b) (hnf : fs.length = 0) (hnv : vs.length = 0) (hpa : ps.all formT = true) : FormR (.mk 3 t n ps fs vs) := by
 by_cases ht0 : t.toList = []
 ·by_cases hn0 : n = 0
  ·by_cases hnp : ps.length = 0
   ·exact form_3y t n ps fs vs hp hf hv hnf hnv hpa ht0 hn0 hnp
   ·exact form_3p t n ps fs vs hp hf hv hnf hnv hpa ht0 hn0 hnp
  ·exact form_3n t n ps fs vs hp hf hv hnf hnv hpa ht0 hn0
 ·obtain ⟨a0, l0, h⟩ := List.exists_cons_of_ne_nil ht0
  exact form_3t t n ps fs vs hp hf hv hnf hnv hpa a0 l0 h
theorem form_step4 (t : ByteArray) (n : Int) (ps : List Ty) (fs : List (ByteArray × Int × Ty)) (vs : List (ByteArray × List Ty)) (hp : ∀ p ∈ ps, FormR p) (hf : ∀ f ∈ fs, FormR f.2.2) (hv : ∀ v ∈ vs, ∀ b ∈ v.2, FormR b) (hnf : fs.length = 0) (hnv : vs.length = 0) (hpa : ps.all formT = true) : FormR (.mk 4 t n ps fs vs) := by
 by_cases ht0 : t.toList = []
 ·by_cases hn0 : n = 0
  ·by_cases hnp : ps.length = 0
   ·exact form_4y t n ps fs vs hp hf hv hnf hnv hpa ht0 hn0 hnp
   ·exact form_4p t n ps fs vs hp hf hv hnf hnv hpa ht0 hn0 hnp
  ·exact form_4n t n ps fs vs hp hf hv hnf hnv hpa ht0 hn0
 ·obtain ⟨a0, l0, h⟩ := List.exists_cons_of_ne_nil ht0
  exact form_4t t n ps fs vs hp hf hv hnf hnv hpa a0 l0 h
theorem form_step5 (t : ByteArray) (n : Int) (ps : List Ty) (fs : List (ByteArray × Int × Ty)) (vs : List (ByteArray × List Ty)) (hp : ∀ p ∈ ps, FormR p) (hf : ∀ f ∈ fs, FormR f.2.2) (hv : ∀ v ∈ vs, ∀ b ∈ v.2, FormR b) (hnf : fs.length = 0) (hnv : vs.length = 0) (hpa : ps.all formT = true) : FormR (.mk 5 t n ps fs vs) := by
 by_cases ht0 : t.toList = []
 ·by_cases hn0 : n = 0
  ·by_cases hnp : ps.length = 0
   ·exact form_5y t n ps fs vs hp hf hv hnf hnv hpa ht0 hn0 hnp
   ·exact form_5p t n ps fs vs hp hf hv hnf hnv hpa ht0 hn0 hnp
  ·exact form_5n t n ps fs vs hp hf hv hnf hnv hpa ht0 hn0
 ·obtain ⟨a0, l0, h⟩ := List.exists_cons_of_ne_nil ht0
  exact form_5t t n ps fs vs hp hf hv hnf hnv hpa a0 l0 h
theorem form_step6 (t : ByteArray) (n : Int) (ps : List Ty) (fs : List (ByteArray × Int × Ty)) (vs : List (ByteArray × List Ty)) (hp : ∀ p ∈ ps, FormR p) (hf : ∀ f ∈ fs, FormR f.2.2) (hv : ∀ v ∈ vs, ∀ b ∈ v.2, FormR b) (hnf : fs.length = 0) (hnv : vs.length = 0) (hpa : ps.all formT = true) : FormR (.mk 6 t n ps fs vs) := by
 by_cases ht0 : t.toList = []
 ·by_cases hn0 : n = 0
  ·by_cases hnp : ps.length = 0
   ·exact form_6y t n ps fs vs hp hf hv hnf hnv hpa ht0 hn0 hnp
   ·exact form_6p t n ps fs vs hp hf hv hnf hnv hpa ht0 hn0 hnp
  ·exact form_6n t n ps fs vs hp hf hv hnf hnv hpa ht0 hn0
 ·obtain ⟨a0, l0, h⟩ := List.exists_cons_of_ne_nil ht0
  exact form_6t t n ps fs vs hp hf hv hnf hnv hpa a0 l0 h
theorem form_step7 (t : ByteArray) (n : Int) (ps : List Ty) (fs : List (ByteArray × Int × Ty)) (vs : List (ByteArray × List Ty)) (hp : ∀ p ∈ ps, FormR p) (hf : ∀ f ∈ fs, FormR f.2.2) (hv : ∀ v ∈ vs, ∀ b ∈ v.2, FormR b) (hnf : fs.length = 0) (hnv : vs.length = 0) (hpa : ps.all formT = true) : FormR (.mk 7 t n ps fs vs) := by
 by_cases ht0 : t.toList = []
 ·by_cases hn0 : n = 0
  ·by_cases hnp : ps.length = 0
   ·exact form_7y t n ps fs vs hp hf hv hnf hnv hpa ht0 hn0 hnp
   ·exact form_7p t n ps fs vs hp hf hv hnf hnv hpa ht0 hn0 hnp
  ·exact form_7n t n ps fs vs hp hf hv hnf hnv hpa ht0 hn0
 ·obtain ⟨a0, l0, h⟩ := List.exists_cons_of_ne_nil ht0
  exact form_7t t n ps fs vs hp hf hv hnf hnv hpa a0 l0 h
theorem form_step8 (t : ByteArray) (n : Int) (ps : List Ty) (fs : List (ByteArray × Int × Ty)) (vs : List (ByteArray × List Ty)) (hp : ∀ p ∈ ps, FormR p) (hf : ∀ f ∈ fs, FormR f.2.2) (hv : ∀ v ∈ vs, ∀ b ∈ v.2, FormR b) (hnf : fs.length = 0) (hnv : vs.length = 0) (hpa : ps.all formT = true) : FormR (.mk 8 t n ps fs vs) := by
 by_cases ht0 : t.toList = []
 ·by_cases hn0 : n = 0
  ·by_cases hnp : ps.length = 0
   ·exact form_8y t n ps fs vs hp hf hv hnf hnv hpa ht0 hn0 hnp
   ·exact form_8p t n ps fs vs hp hf hv hnf hnv hpa ht0 hn0 hnp
  ·exact form_8n t n ps fs vs hp hf hv hnf hnv hpa ht0 hn0
 ·obtain ⟨a0, l0, h⟩ := List.exists_cons_of_ne_nil ht0
  exact form_8t t n ps fs vs hp hf hv hnf hnv hpa a0 l0 h
theorem form_step9 (t : ByteArray) (n : Int) (ps : List Ty) (fs : List (ByteArray × Int × Ty)) (vs : List (ByteArray × List Ty)) (hp : ∀ p ∈ ps, FormR p) (hf : ∀ f ∈ fs, FormR f.2.2) (hv : ∀ v ∈ vs, ∀ b ∈ v.2, FormR b) (hnf : fs.length = 0) (hnv : vs.length = 0) (hpa : ps.all formT = true) : FormR (.mk 9 t n ps fs vs) := by
 by_cases ht0 : t.toList = []
 ·by_cases hn0 : 0 ≤ n
  ·by_cases hnp : ps.length = 0
   ·exact form_9y t n ps fs vs hp hf hv hnf hnv hpa ht0 hn0 hnp
   ·exact form_9p t n ps fs vs hp hf hv hnf hnv hpa ht0 hn0 hnp
  ·exact form_9n t n ps fs vs hp hf hv hnf hnv hpa ht0 hn0
 ·obtain ⟨a0, l0, h⟩ := List.exists_cons_of_ne_nil ht0
  exact form_9t t n ps fs vs hp hf hv hnf hnv hpa a0 l0 h
theorem form_step10 (t : ByteArray) (n : Int) (ps : List Ty) (fs : List (ByteArray × Int × Ty)) (vs : List (ByteArray × List Ty)) (hp : ∀ p ∈ ps, FormR p) (hf : ∀ f ∈ fs, FormR f.2.2) (hv : ∀ v ∈ vs, ∀ b ∈ v.2, FormR b) (hnf : fs.length = 0) (hnv : vs.length = 0) (hpa : ps.all formT = true) : FormR (.mk 10 t n ps fs vs) := by
 by_cases hn0 : n = 0
 ·by_cases hnp : ps.length = 0
  ·exact form_10y t n ps fs vs hp hf hv hnf hnv hpa hn0 hnp
  ·exact form_10p t n ps fs vs hp hf hv hnf hnv hpa hn0 hnp
 ·exact form_10n t n ps fs vs hp hf hv hnf hnv hpa hn0
theorem form_step11 (t : ByteArray) (n : Int) (ps : List Ty) (fs : List (ByteArray × Int × Ty)) (vs : List (ByteArray × List Ty)) (hp : ∀ p ∈ ps, FormR p) (hf : ∀ f ∈ fs, FormR f.2.2) (hv : ∀ v ∈ vs, ∀ b ∈ v.2, FormR b) (hnf : fs.length = 0) (hnv : vs.length = 0) (hpa : ps.all formT = true) : FormR (.mk 11 t n ps fs vs) := by
 by_cases ht0 : t.toList = []
 ·by_cases hn0 : n = 0
  ·by_cases hnp : ps.length = 1
   ·exact form_11y t n ps fs vs hp hf hv hnf hnv hpa ht0 hn0 hnp
   ·exact form_11p t n ps fs vs hp hf hv hnf hnv hpa ht0 hn0 hnp
  ·exact form_11n t n ps fs vs hp hf hv hnf hnv hpa ht0 hn0
 ·obtain ⟨a0, l0, h⟩ := List.exists_cons_of_ne_nil ht0
  exact form_11t t n ps fs vs hp hf hv hnf hnv hpa a0 l0 h
theorem form_step12 (t : ByteArray) (n : Int) (ps : List Ty) (fs : List (ByteArray × Int × Ty)) (vs : List (ByteArray × List Ty)) (hp : ∀ p ∈ ps, FormR p) (hf : ∀ f ∈ fs, FormR f.2.2) (hv : ∀ v ∈ vs, ∀ b ∈ v.2, FormR b) (hnf : fs.length = 0) (hnv : vs.length = 0) (hpa : ps.all formT = true) : FormR (.mk 12 t n ps fs vs) := by
 by_cases ht0 : t.toList = []
 ·by_cases hn0 : n = 0
  ·exact form_12y t n ps fs vs hp hf hv hnf hnv hpa ht0 hn0
  ·exact form_12n t n ps fs vs hp hf hv hnf hnv hpa ht0 hn0
 ·obtain ⟨a0, l0, h⟩ := List.exists_cons_of_ne_nil ht0
  exact form_12t t n ps fs vs hp hf hv hnf hnv hpa a0 l0 h
theorem form_step13 (t : ByteArray) (n : Int) (ps : List Ty) (fs : List (ByteArray × Int × Ty)) (vs : List (ByteArray × List Ty)) (hp : ∀ p ∈ ps, FormR p) (hf : ∀ f ∈ fs, FormR f.2.2) (hv : ∀ v ∈ vs, ∀ b ∈ v.2, FormR b) (hnf : fs.length = 0) (hpa : ps.all formT = true) : FormR (.mk 13 t n ps fs vs) := by
 by_cases ht0 : t.toList = []
 ·by_cases hn0 : n = 0
  ·by_cases hnp : 1 ≤ ps.length
   ·cases hq : varsB (varsT vs formT) with
    | false => exact form_13bf t n ps fs vs hp hf hv hnf hpa ht0 hn0 hnp hq
    | true => exact form_13bt t n ps fs vs hp hf hv hnf hpa ht0 hn0 hnp hq
   ·exact form_13p t n ps fs vs hp hf hv hnf hpa ht0 hn0 hnp
  ·exact form_13n t n ps fs vs hp hf hv hnf hpa ht0 hn0
 ·obtain ⟨a0, l0, h⟩ := List.exists_cons_of_ne_nil ht0
  exact form_13t t n ps fs vs hp hf hv hnf hpa a0 l0 h
theorem form_step14 (t : ByteArray) (n : Int) (ps : List Ty) (fs : List (ByteArray × Int × Ty)) (vs : List (ByteArray × List Ty)) (hp : ∀ p ∈ ps, FormR p) (hf : ∀ f ∈ fs, FormR f.2.2) (hv : ∀ v ∈ vs, ∀ b ∈ v.2, FormR b) (hnv : vs.length = 0) (hpa : ps.all formT = true) : FormR (.mk 14 t n ps fs vs) := by
 by_cases ht0 : t.toList = []
 ·by_cases hn0 : n = 0
  ·by_cases hnp : ps.length = 0
   ·cases hq : fieldsB (fieldsT fs formT) with
    | false => exact form_14bf t n ps fs vs hp hf hv hnv hpa ht0 hn0 hnp hq
    | true => exact form_14bt t n ps fs vs hp hf hv hnv hpa ht0 hn0 hnp hq
   ·exact form_14p t n ps fs vs hp hf hv hnv hpa ht0 hn0 hnp
  ·exact form_14n t n ps fs vs hp hf hv hnv hpa ht0 hn0
 ·obtain ⟨a0, l0, h⟩ := List.exists_cons_of_ne_nil ht0
  exact form_14t t n ps fs vs hp hf hv hnv hpa a0 l0 h
theorem form_step16 (t : ByteArray) (n : Int) (ps : List Ty) (fs : List (ByteArray × Int × Ty)) (vs : List (ByteArray × List Ty)) (hp : ∀ p ∈ ps, FormR p) (hf : ∀ f ∈ fs, FormR f.2.2) (hv : ∀ v ∈ vs, ∀ b ∈ v.2, FormR b) (hnf : fs.length = 0) (hnv : vs.length = 0) (hpa : ps.all formT = true) : FormR (.mk 16 t n ps fs vs) := by
 cases hnm : nameT t with
 | false => exact form_16m t n ps fs vs hp hf hv hnf hnv hpa hnm
 | true =>
  by_cases hn0 : n = 0
  ·by_cases hnp : ps.length = 0
   ·exact form_16y t n ps fs vs hp hf hv hnf hnv hpa hnm hn0 hnp
   ·exact form_16p t n ps fs vs hp hf hv hnf hnv hpa hnm hn0 hnp
  ·exact form_16n t n ps fs vs hp hf hv hnf hnv hpa hnm hn0
theorem form_step17 (t : ByteArray) (n : Int) (ps : List Ty) (fs : List (ByteArray × Int × Ty)) (vs : List (ByteArray × List Ty)) (hp : ∀ p ∈ ps, FormR p) (hf : ∀ f ∈ fs, FormR f.2.2) (hv : ∀ v ∈ vs, ∀ b ∈ v.2, FormR b) (hnf : fs.length = 0) (hnv : vs.length = 0) (hpa : ps.all formT = true) : FormR (.mk 17 t n ps fs vs) := by
 cases hnm : nameT t with
 | false => exact form_17m t n ps fs vs hp hf hv hnf hnv hpa hnm
 | true =>
  by_cases hn0 : n = 0
  ·exact form_17y t n ps fs vs hp hf hv hnf hnv hpa hnm hn0
  ·exact form_17n t n ps fs vs hp hf hv hnf hnv hpa hnm hn0
theorem form_step18 (t : ByteArray) (n : Int) (ps : List Ty) (fs : List (ByteArray × Int × Ty)) (vs : List (ByteArray × List Ty)) (hp : ∀ p ∈ ps, FormR p) (hf : ∀ f ∈ fs, FormR f.2.2) (hv : ∀ v ∈ vs, ∀ b ∈ v.2, FormR b) (hnf : fs.length = 0) (hnv : vs.length = 0) (hpa : ps.all formT = true) : FormR (.mk 18 t n ps fs vs) := by
 by_cases ht0 : t.toList = []
 ·by_cases hn0 : n = 0
  ·by_cases hnp : ps.length = 1
   ·exact form_18y t n ps fs vs hp hf hv hnf hnv hpa ht0 hn0 hnp
   ·exact form_18p t n ps fs vs hp hf hv hnf hnv hpa ht0 hn0 hnp
  ·exact form_18n t n ps fs vs hp hf hv hnf hnv hpa ht0 hn0
 ·obtain ⟨a0, l0, h⟩ := List.exists_cons_of_ne_nil ht0
  exact form_18t t n ps fs vs hp hf hv hnf hnv hpa a0 l0 h
theorem form_step19 (t : ByteArray) (n : Int) (ps : List Ty) (fs : List (ByteArray × Int × Ty)) (vs : List (ByteArray × List Ty)) (hp : ∀ p ∈ ps, FormR p) (hf : ∀ f ∈ fs, FormR f.2.2) (hv : ∀ v ∈ vs, ∀ b ∈ v.2, FormR b) (hnf : fs.length = 0) (hnv : vs.length = 0) (hpa : ps.all formT = true) : FormR (.mk 19 t n ps fs vs) := by
 by_cases ht0 : t.toList = []
 ·by_cases hn0 : n = 0
  ·by_cases hnp : ps.length = 2
   ·exact form_19y t n ps fs vs hp hf hv hnf hnv hpa ht0 hn0 hnp
   ·exact form_19p t n ps fs vs hp hf hv hnf hnv hpa ht0 hn0 hnp
  ·exact form_19n t n ps fs vs hp hf hv hnf hnv hpa ht0 hn0
 ·obtain ⟨a0, l0, h⟩ := List.exists_cons_of_ne_nil ht0
  exact form_19t t n ps fs vs hp hf hv hnf hnv hpa a0 l0 h
theorem form_step20 (t : ByteArray) (n : Int) (ps : List Ty) (fs : List (ByteArray × Int × Ty)) (vs : List (ByteArray × List Ty)) (hp : ∀ p ∈ ps, FormR p) (hf : ∀ f ∈ fs, FormR f.2.2) (hv : ∀ v ∈ vs, ∀ b ∈ v.2, FormR b) (hnf : fs.length = 0) (hnv : vs.length = 0) (hpa : ps.all formT = true) : FormR (.mk 20 t n ps fs vs) := by
 cases hnm : nameT t with
 | false => exact form_20m t n ps fs vs hp hf hv hnf hnv hpa hnm
 | true =>
  by_cases hn0 : 0 ≤ n
  ·by_cases hn3 : n ≤ 3
   ·by_cases hnp : ps.length = 2
    ·exact form_20y t n ps fs vs hp hf hv hnf hnv hpa hnm hn0 hn3 hnp
    ·exact form_20p t n ps fs vs hp hf hv hnf hnv hpa hnm hn0 hn3 hnp
   ·exact form_20o t n ps fs vs hp hf hv hnf hnv hpa hnm hn0 hn3
  ·exact form_20n t n ps fs vs hp hf hv hnf hnv hpa hnm hn0
theorem form_step21 (t : ByteArray) (n : Int) (ps : List Ty) (fs : List (ByteArray × Int × Ty)) (vs : List (ByteArray × List Ty)) (hp : ∀ p ∈ ps, FormR p) (hf : ∀ f ∈ fs, FormR f.2.2) (hv : ∀ v ∈ vs, ∀ b ∈ v.2, FormR b) (hnf : fs.length = 0) (hnv : vs.length = 0) (hpa : ps.all formT = true) : FormR (.mk 21 t n ps fs vs) := by
 by_cases hnp : ps.length = 4
 ·by_cases hn0 : n = 0
  ·by_cases ht0 : t.toList = []
   ·exact form_21a t n ps fs vs hp hf hv hnf hnv hpa hnp hn0 ht0
   ·obtain ⟨a0, l0, h⟩ := List.exists_cons_of_ne_nil ht0
    exact form_21b t n ps fs vs hp hf hv hnf hnv hpa hnp hn0 a0 l0 h
  ·by_cases hn1 : n = 1
   ·cases hnm : nameT t with
    | false => exact form_21mf t n ps fs vs hp hf hv hnf hnv hpa hnp hn0 hn1 hnm
    | true => exact form_21mt t n ps fs vs hp hf hv hnf hnv hpa hnp hn0 hn1 hnm
   ·exact form_21c t n ps fs vs hp hf hv hnf hnv hpa hnp hn0 hn1
 ·exact form_21p t n ps fs vs hp hf hv hnf hnv hpa hnp
theorem form_step22 (t : ByteArray) (n : Int) (ps : List Ty) (fs : List (ByteArray × Int × Ty)) (vs : List (ByteArray × List Ty)) (hp : ∀ p ∈ ps, FormR p) (hf : ∀ f ∈ fs, FormR f.2.2) (hv : ∀ v ∈ vs, ∀ b ∈ v.2, FormR b) (hnf : fs.length = 0) (hnv : vs.length = 0) (hpa : ps.all formT = true) : FormR (.mk 22 t n ps fs vs) := by
 cases hnm : nameT t with
 | false => exact form_22m t n ps fs vs hp hf hv hnf hnv hpa hnm
 | true =>
  by_cases hn0 : n = 0
  ·by_cases hnp : ps.length = 0
   ·exact form_22y t n ps fs vs hp hf hv hnf hnv hpa hnm hn0 hnp
   ·exact form_22p t n ps fs vs hp hf hv hnf hnv hpa hnm hn0 hnp
  ·exact form_22n t n ps fs vs hp hf hv hnf hnv hpa hnm hn0
theorem form_step23 (t : ByteArray) (n : Int) (ps : List Ty) (fs : List (ByteArray × Int × Ty)) (vs : List (ByteArray × List Ty)) (hp : ∀ p ∈ ps, FormR p) (hf : ∀ f ∈ fs, FormR f.2.2) (hv : ∀ v ∈ vs, ∀ b ∈ v.2, FormR b) (hnf : fs.length = 0) (hnv : vs.length = 0) (hpa : ps.all formT = true) : FormR (.mk 23 t n ps fs vs) := by
 by_cases ht0 : t.toList = []
 ·by_cases hn0 : n = 0
  ·by_cases hnp : 2 ≤ ps.length
   ·cases hq : overT ps with
    | false => exact form_23bf t n ps fs vs hp hf hv hnf hnv hpa ht0 hn0 hnp hq
    | true => exact form_23bt t n ps fs vs hp hf hv hnf hnv hpa ht0 hn0 hnp hq
   ·exact form_23p t n ps fs vs hp hf hv hnf hnv hpa ht0 hn0 hnp
  ·exact form_23n t n ps fs vs hp hf hv hnf hnv hpa ht0 hn0
 ·obtain ⟨a0, l0, h⟩ := List.exists_cons_of_ne_nil ht0
  exact form_23t t n ps fs vs hp hf hv hnf hnv hpa a0 l0 h
theorem formr_step (k : Int) (t : ByteArray) (n : Int) (ps : List Ty) (fs : List (ByteArray × Int × Ty)) (vs : List (ByteArray × List Ty)) (hp : ∀ p ∈ ps, FormR p) (hf : ∀ f ∈ fs, FormR f.2.2) (hv : ∀ v ∈ vs, ∀ b ∈ v.2, FormR b) : FormR (.mk k t n ps fs vs) := by
 by_cases h14 : k = 14
 ·subst h14
  by_cases hnv : vs.length = 0
  ·cases hpa : ps.all formT with
   | false => exact form_pa14 t n ps fs vs hp hf hv hnv hpa
   | true => exact form_step14 t n ps fs vs hp hf hv hnv hpa
  ·exact form_nv14 t n ps fs vs hp hf hv (by omega)
 by_cases hnf : fs.length = 0
 ·by_cases h13 : k = 13
  ·subst h13
   cases hpa : ps.all formT with
   | false => exact form_pa13 t n ps fs vs hp hf hv hnf hpa
   | true => exact form_step13 t n ps fs vs hp hf hv hnf hpa
  by_cases hnv : vs.length = 0
  ·cases hpa : ps.all formT with
   | false => exact form_pa k t n ps fs vs hp hf hv h14 hnf h13 hnv hpa
   | true =>
    by_cases h1 : k = 1
    ·subst h1; exact form_step1 t n ps fs vs hp hf hv hnf hnv hpa
    by_cases h2 : k = 2
    ·subst h2; exact form_step2 t n ps fs vs hp hf hv hnf hnv hpa
    by_cases h3 : k = 3
    ·subst h3; exact form_step3 t n ps fs vs hp hf hv hnf hnv hpa
    by_cases h4 : k = 4
    ·subst h4; exact form_step4 t n ps fs vs hp hf hv hnf hnv hpa
    by_cases h5 : k = 5
    ·subst h5; exact form_step5 t n ps fs vs hp hf hv hnf hnv hpa
    by_cases h6 : k = 6
    ·subst h6; exact form_step6 t n ps fs vs hp hf hv hnf hnv hpa
    by_cases h7 : k = 7
    ·subst h7; exact form_step7 t n ps fs vs hp hf hv hnf hnv hpa
    by_cases h8 : k = 8
    ·subst h8; exact form_step8 t n ps fs vs hp hf hv hnf hnv hpa
    by_cases h9 : k = 9
    ·subst h9; exact form_step9 t n ps fs vs hp hf hv hnf hnv hpa
    by_cases h10 : k = 10
    ·subst h10; exact form_step10 t n ps fs vs hp hf hv hnf hnv hpa
    by_cases h11 : k = 11
    ·subst h11; exact form_step11 t n ps fs vs hp hf hv hnf hnv hpa
    by_cases h12 : k = 12
    ·subst h12; exact form_step12 t n ps fs vs hp hf hv hnf hnv hpa
    by_cases h15 : k = 15
    ·subst h15; exact form_step15 t n ps fs vs hp hf hv hnf hnv hpa
    by_cases h16 : k = 16
    ·subst h16; exact form_step16 t n ps fs vs hp hf hv hnf hnv hpa
    by_cases h17 : k = 17
    ·subst h17; exact form_step17 t n ps fs vs hp hf hv hnf hnv hpa
    by_cases h18 : k = 18
    ·subst h18; exact form_step18 t n ps fs vs hp hf hv hnf hnv hpa
    by_cases h19 : k = 19
    ·subst h19; exact form_step19 t n ps fs vs hp hf hv hnf hnv hpa
    by_cases h20 : k = 20
    ·subst h20; exact form_step20 t n ps fs vs hp hf hv hnf hnv hpa
    by_cases h21 : k = 21
    ·subst h21; exact form_step21 t n ps fs vs hp hf hv hnf hnv hpa
    by_cases h22 : k = 22
    ·subst h22; exact form_step22 t n ps fs vs hp hf hv hnf hnv hpa
    by_cases h23 : k = 23
    ·subst h23; exact form_step23 t n ps fs vs hp hf hv hnf hnv hpa
    exact form_no k t n ps fs vs hp hf hv h1 h2 h3 h4 h5 h6 h7 h8 h9 h10 h11 h12 h13 h14 h15 h16 h17 h18 h19 h20 h21 h22 h23 hnf hnv hpa
  ·exact form_nv k t n ps fs vs hp hf hv h14 hnf h13 (by omega)
 ·exact form_nf k t n ps fs vs hp hf hv h14 (by omega)
theorem form_ref (t : Ty) : FormR t := Ty.ind (C := FormR) (fun k t n ps fs vs hp hf hv => formr_step k t n ps fs vs hp hf hv) t
set_option maxRecDepth 100000 in
set_option maxHeartbeats 16000000 in
theorem len64_0 (w : World) : Calls Tryz.prog 103 #[.int .u64 0] w fun e w' => e = .returned (.int .i64 0) ∧ w' = w := by
 have e0 : wrap64 (Lib.len8 0) = 0 := by kernel_rfl
 have e1 : wrap64 0 = 0 := by kernel_rfl
 go_enter Tryz.func103, Tryz.ntmps103
 go_wp2_with fail
 go_ret
 exact ⟨rfl, rfl⟩
set_option maxRecDepth 100000 in
set_option maxHeartbeats 16000000 in
theorem blen_0 (w : World) : Calls Tryz.prog 78 #[.int .u64 0] w fun e w' => e = .returned (.int .i64 0) ∧ w' = w := by
 go_enter Tryz.func78, Tryz.ntmps78
 go_wp2_with fail
 refine (len64_0 _).mono ?_
 rintro e w' ⟨rfl, hw⟩; obtain rfl := hw.symm
 go_wp2_with fail
 go_ret
 exact ⟨rfl, rfl⟩
set_option maxRecDepth 100000 in
set_option maxHeartbeats 16000000 in
theorem isort_0 (w : World) (A : Option Addr) (c : Nat) : Calls Tryz.prog 93 #[.slice A 0 c, .int .i64 0, .int .i64 0] w fun e w' => e = .returned (.tuple #[]) ∧ w' = w := by
 go_enter Tryz.func93, Tryz.ntmps93
 go_wp2_with fail
 go_loopw [6] (fun v wr => v = .int .i64 1 ∧ wr = w) (fun _ _ => 0)
 case atStart => exact ⟨rfl, rfl⟩
 case round =>
  obtain ⟨rfl, rfl⟩ := hrel
  go_wp2_with fail
  go_end0
  exact ⟨rfl, rfl⟩
set_option maxRecDepth 100000 in
set_option maxHeartbeats 16000000 in
theorem pdq_0 (w : World) (A : Option Addr) (c : Nat) : Calls Tryz.prog 77 #[.slice A 0 c, .int .i64 0, .int .i64 0, .int .i64 0] w fun e w' => e = .returned (.tuple #[]) ∧ w' = w := by
 go_enter Tryz.func77, Tryz.ntmps77
 go_wp2_with fail
 go_loopw [1, 2, 3, 8, 9] (fun a b l x y wr => a = .int .i64 0 ∧ b = .int .i64 0 ∧ l = .int .i64 0 ∧ x = .bool true ∧ y = .bool true ∧ wr = w) (fun _ _ _ _ _ _ => 0)
 case atStart => exact ⟨rfl, rfl, rfl, rfl, rfl, rfl⟩
 case round =>
  obtain ⟨rfl, rfl, rfl, rfl, rfl, rfl⟩ := hrel
  go_wp2_with fail
  refine (isort_0 _ _ _).mono ?_
  rintro e w' ⟨rfl, hw⟩; obtain rfl := hw.symm
  go_wp2_with fail
  exact bodyPost_ret (v := .tuple #[]) (by simp [results, Tryz.results77, go_sem]) rfl ⟨rfl, rfl⟩
set_option maxRecDepth 100000 in
set_option maxHeartbeats 16000000 in
theorem sort_0 (w : World) (A : Option Addr) (c : Nat) : Calls Tryz.prog 59 #[.slice A 0 c] w fun e w' => e = .returned (.tuple #[]) ∧ w' = w := by
 go_enter Tryz.func59, Tryz.ntmps59
 go_wp2_with fail
 refine (blen_0 _).mono ?_
 rintro e w' ⟨rfl, hw⟩; obtain rfl := hw.symm
 go_wp2_with fail
 refine (pdq_0 _ _ _).mono ?_
 rintro e w' ⟨rfl, hw⟩; obtain rfl := hw.symm
 go_wp2_with fail
 go_end0
 exact ⟨rfl, rfl⟩
set_option maxRecDepth 100000 in
set_option maxHeartbeats 16000000 in
theorem compact_0 (w : World) (A : Option Addr) (c : Nat) : Calls Tryz.prog 60 #[.slice A 0 c] w fun e w' => e = .returned (.slice A 0 c) ∧ w' = w := by
 go_enter Tryz.func60, Tryz.ntmps60
 go_wp2_with fail
 go_ret
 exact ⟨rfl, rfl⟩
set_option maxRecDepth 100000 in
set_option maxHeartbeats 16000000 in
theorem len64_1 (w : World) : Calls Tryz.prog 103 #[.int .u64 1] w fun e w' => e = .returned (.int .i64 1) ∧ w' = w := by
 have e0 : wrap64 (Lib.len8 1) = 1 := by kernel_rfl
 have e1 : wrap64 1 = 1 := by kernel_rfl
 go_enter Tryz.func103, Tryz.ntmps103
 go_wp2_with fail
 go_ret
 exact ⟨rfl, rfl⟩
set_option maxRecDepth 100000 in
set_option maxHeartbeats 16000000 in
theorem blen_1 (w : World) : Calls Tryz.prog 78 #[.int .u64 1] w fun e w' => e = .returned (.int .i64 1) ∧ w' = w := by
 go_enter Tryz.func78, Tryz.ntmps78
 go_wp2_with fail
 refine (len64_1 _).mono ?_
 rintro e w' ⟨rfl, hw⟩; obtain rfl := hw.symm
 go_wp2_with fail
 go_ret
 exact ⟨rfl, rfl⟩
set_option maxRecDepth 100000 in
set_option maxHeartbeats 16000000 in
theorem isort_1 (w : World) (A : Option Addr) (c : Nat) : Calls Tryz.prog 93 #[.slice A 1 c, .int .i64 0, .int .i64 1] w fun e w' => e = .returned (.tuple #[]) ∧ w' = w := by
 go_enter Tryz.func93, Tryz.ntmps93
 go_wp2_with fail
 go_loopw [6] (fun v wr => v = .int .i64 1 ∧ wr = w) (fun _ _ => 0)
 case atStart => exact ⟨rfl, rfl⟩
 case round =>
  obtain ⟨rfl, rfl⟩ := hrel
  go_wp2_with fail
  go_end0
  exact ⟨rfl, rfl⟩
set_option maxRecDepth 100000 in
set_option maxHeartbeats 16000000 in
theorem pdq_1 (w : World) (A : Option Addr) (c : Nat) : Calls Tryz.prog 77 #[.slice A 1 c, .int .i64 0, .int .i64 1, .int .i64 1] w fun e w' => e = .returned (.tuple #[]) ∧ w' = w := by
 go_enter Tryz.func77, Tryz.ntmps77
 go_wp2_with fail
 go_loopw [1, 2, 3, 8, 9] (fun a b l x y wr => a = .int .i64 0 ∧ b = .int .i64 1 ∧ l = .int .i64 1 ∧ x = .bool true ∧ y = .bool true ∧ wr = w) (fun _ _ _ _ _ _ => 0)
 case atStart => exact ⟨rfl, rfl, rfl, rfl, rfl, rfl⟩
 case round =>
  obtain ⟨rfl, rfl, rfl, rfl, rfl, rfl⟩ := hrel
  go_wp2_with fail
  refine (isort_1 _ _ _).mono ?_
  rintro e w' ⟨rfl, hw⟩; obtain rfl := hw.symm
  go_wp2_with fail
  exact bodyPost_ret (v := .tuple #[]) (by simp [results, Tryz.results77, go_sem]) rfl ⟨rfl, rfl⟩
set_option maxRecDepth 100000 in
set_option maxHeartbeats 16000000 in
theorem sort_1 (w : World) (A : Option Addr) (c : Nat) : Calls Tryz.prog 59 #[.slice A 1 c] w fun e w' => e = .returned (.tuple #[]) ∧ w' = w := by
 go_enter Tryz.func59, Tryz.ntmps59
 go_wp2_with fail
 refine (blen_1 _).mono ?_
 rintro e w' ⟨rfl, hw⟩; obtain rfl := hw.symm
 go_wp2_with fail
 refine (pdq_1 _ _ _).mono ?_
 rintro e w' ⟨rfl, hw⟩; obtain rfl := hw.symm
 go_wp2_with fail
 go_end0
 exact ⟨rfl, rfl⟩
set_option maxRecDepth 100000 in
set_option maxHeartbeats 16000000 in
theorem compact_1 (w : World) (A : Option Addr) (c : Nat) : Calls Tryz.prog 60 #[.slice A 1 c] w fun e w' => e = .returned (.slice A 1 c) ∧ w' = w := by
 go_enter Tryz.func60, Tryz.ntmps60
 go_wp2_with fail
 go_ret
 exact ⟨rfl, rfl⟩
set_option maxRecDepth 100000 in
set_option maxHeartbeats 16000000 in
theorem infers_few {K : Nat → Prop} {w : World} {t : Ty} {cs : List Value} (hr : RepT K w t cs) (hf : formT t = true) (hn : (namesI t).length ≤ 1) :
  Calls Tryz.prog 41 #[.agg cs.toArray] w fun e w' => ∃ A c, e = .returned (.slice A (namesI t).length c) ∧ ListS w' (namesI t) A ∧ Below w.heap.size w w' := by
 have kinf := infs_any t
 obtain ⟨k, s, n, ps, fs, vs⟩ := t
 obtain ⟨A, c, B, d, C, e0, rfl, -⟩ := hr.inv
 simp only [cells6T] at hr ⊢
 obtain ⟨w0, hw0⟩ : ∃ x, x = w.alloc (.cells #[.int .i64 k, .string s, .int .i64 n, .slice A ps.length c, .slice B fs.length d, .slice C vs.length e0] 26) := ⟨_, rfl⟩
 obtain ⟨w1, hw1⟩ : ∃ x, x = w0.alloc (.cells #[.slice none 0 0] 39) := ⟨_, rfl⟩
 have hat : AtT K w0 (.mk k s n ps fs vs) w.heap.size 0 := by rw [hw0]; exact AtT.box 26 hr
 have hb0 : Below w.heap.size w w0 := by rw [hw0]; exact (Below.refl _ _).alloc (Nat.le_refl _) _
 have hb1 : Below w0.heap.size w0 w1 := by rw [hw1]; exact (Below.refl _ _).alloc (Nat.le_refl _) _
 have hnm : NmS w0 w1 w0.heap.size [] := ⟨.slice none 0 0, by rw [hw1]; exact heap_alloc_new w0 _, ⟨rfl, .inl ⟨rfl, rfl⟩⟩, hb1, Nat.le_refl _⟩
 have KI := Lib.hid (kinf K w0 w1 w.heap.size 0 w0.heap.size [] hat hf hnm (by simp only [List.length_nil]; omega))
 have HB0 := Lib.hid hb0
 have HW0 := Lib.hid hw0
 have HW1 := Lib.hid hw1
 clear kinf hr hat hb0 hb1 hnm hw0 hw1 hf
 rw [List.nil_append] at KI
 generalize namesI (.mk k s n ps fs vs) = l at KI hn ⊢
 go_enter Tryz.func41, Tryz.ntmps41
 go_upto_region 1 with fail
 rw [← HW0.out]
 go_upto_region 2 with fail
 rw [← HW1.out]
 go_wp2_with fail
 refine KI.out.mono ?_
 rintro e w2 ⟨rfl, v, hv, ho, hb, hg⟩
 have HB2 := Lib.hid (HB0.out.trans (hb.mono HB0.out.size))
 obtain ⟨Ax, cx, hls⟩ : ∃ Ax cx, v = .slice Ax l.length cx ∧ ListS w2 l Ax := ho.list (by omega)
 have HLS := Lib.hid hls.2
 obtain ⟨rfl, -⟩ := hls
 have z0 : w2.cell? ⟨w0.heap.size, 0, none⟩ = some (.slice Ax l.length cx) := Lib.cell_of_heap hv 0
 clear hv ho hb hg
 rcases l with _ | ⟨x, _ | ⟨y, l⟩⟩
 ·simp only [List.length_nil] at *
  go_wp2_with fail
  refine (sort_0 _ _ _).mono ?_
  rintro e w' ⟨rfl, hw⟩; obtain rfl := hw.symm
  go_wp2_with fail
  refine (compact_0 _ _ _).mono ?_
  rintro e w' ⟨rfl, hw⟩; obtain rfl := hw.symm
  go_wp2_with fail
  go_ret
  exact ⟨_, _, rfl, HLS.out, HB2.out⟩
 ·simp only [List.length_cons, List.length_nil, Nat.zero_add] at *
  go_wp2_with fail
  refine (sort_1 _ _ _).mono ?_
  rintro e w' ⟨rfl, hw⟩; obtain rfl := hw.symm
  go_wp2_with fail
  refine (compact_1 _ _ _).mono ?_
  rintro e w' ⟨rfl, hw⟩; obtain rfl := hw.symm
  go_wp2_with fail
  go_ret
  exact ⟨_, _, rfl, HLS.out, HB2.out⟩
 ·simp at hn
end Go.Proofs.YtlooadichhpgeaaGreatDoor
