import Derived.Test.YtllhfnpchplibaaGreatDoorMc33
import Derived.Test.YtllhfnpchplibaaGreatDoorMc34
import Derived.Test.YtllhfnpchplibaaGreatDoorMc35
import Derived.Test.YtllhfnpchplibaaGreatDoorMc36
import Derived.Test.YtllhfnpchplibaaGreatDoorMc37
import Derived.Test.YtllhfnpchplibaaGreatDoorMc38
import Derived.Test.YtllhfnpchplibaaGreatDoorMc39
import Derived.Test.YtllhfnpchplibaaGreatDoorMc40
import Derived.Test.YtllhfnpchplibaaGreatDoorMc41
namespace Go.Proofs.YtllhfnpchplibaaGreatDoor
open Go.RowKit
theorem form_step15 (t : ByteArray) (n : Int) (ps : List Ty) (fs : List (ByteArray × Int × Ty)) (vs : List (ByteArray × List Ty)) (hp : ∀ p ∈ ps, FormR p) (hf : ∀ f ∈ fs, FormR f.2.2) (hv : ∀ v ∈ vs, ∀ b ∈ v.2, FormR b) (hnf : fs.length = 0) (hnv : vs.length = 0) (hpa : ps.all formT = true) : FormR (.mk 15 t n ps fs vs) := by
 by_cases ht0 : t.toList = []
 ·by_cases hn0 : n = 0
  ·by_cases hnp : 2 ≤ ps.length
   ·exact form_15y t n ps fs vs hp hf hv hnf hnv hpa ht0 hn0 hnp
   ·exact form_15p t n ps fs vs hp hf hv hnf hnv hpa ht0 hn0 hnp
  ·exact form_15n t n ps fs vs hp hf hv hnf hnv hpa ht0 hn0
 ·obtain ⟨a0, l0, h⟩ := List.exists_cons_of_ne_nil ht0
  exact form_15t t n ps fs vs hp hf hv hnf hnv hpa a0 l0 h
theorem form_step1 (t : ByteArray) (n : Int) (ps : List Ty) (fs : List (ByteArray × Int × Ty)) (vs : List (ByteArray × List Ty)) (hp : ∀ p ∈ ps, FormR p) (hf : ∀ f ∈ fs, FormR f.2.2) (hv : ∀ v ∈ vs, ∀ b ∈ v.2, FormR b) (hnf : fs.length = 0) (hnv : vs.length = 0) (hpa : ps.all formT = true) : FormR (.mk 1 t n ps fs vs) := by
 by_cases ht0 : t.toList = []
 ·by_cases hn0 : n = 0
  ·by_cases hnp : ps.length = 0
   ·exact form_1y t n ps fs vs hp hf hv hnf hnv hpa ht0 hn0 hnp
   ·exact form_1p t n ps fs vs hp hf hv hnf hnv hpa ht0 hn0 hnp
  ·exact form_1n t n ps fs vs hp hf hv hnf hnv hpa ht0 hn0
 ·obtain ⟨a0, l0, h⟩ := List.exists_cons_of_ne_nil ht0
  exact form_1t t n ps fs vs hp hf hv hnf hnv hpa a0 l0 h
theorem form_step2 (t : ByteArray) (n : Int) (ps : List Ty) (fs : List (ByteArray × Int × Ty)) (vs : List (ByteArray × List Ty)) (hp : ∀ p ∈ ps, FormR p) (hf : ∀ f ∈ fs, FormR f.2.2) (hv : ∀ v ∈ vs, ∀ b ∈ v.2, FormR b) (hnf : fs.length = 0) (hnv : vs.length = 0) (hpa : ps.all formT = true) : FormR (.mk 2 t n ps fs vs) := by
 by_cases ht0 : t.toList = []
 ·by_cases hn0 : n = 0
  ·by_cases hnp : ps.length = 0
   ·exact form_2y t n ps fs vs hp hf hv hnf hnv hpa ht0 hn0 hnp
   ·exact form_2p t n ps fs vs hp hf hv hnf hnv hpa ht0 hn0 hnp
  ·exact form_2n t n ps fs vs hp hf hv hnf hnv hpa ht0 hn0
 ·obtain ⟨a0, l0, h⟩ := List.exists_cons_of_ne_nil ht0
  exact form_2t t n ps fs vs hp hf hv hnf hnv hpa a0 l0 h
theorem form_step3 (t : ByteArray) (n : Int) (ps : List Ty) (fs : List (ByteArray × Int × Ty)) (vs : List (ByteArray × List Ty)) (hp : ∀ p ∈ ps, FormR p) (hf : ∀ f ∈ fs, FormR f.2.2) (hv : ∀ v ∈ vs, ∀ b ∈ v.2, FormR b) (hnf : fs.length = 0) (hnv : vs.length = 0) (hpa : ps.all formT = true) : FormR (.mk 3 t n ps fs vs) := by
 by_cases ht0 : t.toList = []
 ·by_cases hn0 : n = 0
  ·by_cases hnp : ps.length = 0
   ·exact form_3y t n ps fs vs hp hf hv hnf hnv hpa ht0 hn0 hnp
   ·exact form_3p t n ps fs vs hp hf hv hnf hnv hpa ht0 hn0 hnp
  ·exact form_3n t n ps fs vs hp hf hv hnf hnv hpa ht0 hn0
 ·obtain ⟨a0, l0, h⟩ := List.exists_cons_of_ne_nil ht0
  exact form_3t t n ps fs vs hp hf hv hnf hnv hpa a0 l0 h
theorem form_step4 (t : ByteArray) (n : Int) (ps : List Ty) (fs : List (ByteArray × Int × Ty)) (vs : List (ByteArray × List Ty)) (hp : ∀ p ∈ ps, FormR p) (hf : ∀ f ∈ fs, FormR f.2.2) (hv : ∀ v ∈ vs, ∀ b ∈ v.2, FormR b) (hnf : fs.length = 0) (hnv : vs.length = 0) (hpa : ps.all formT = true) : FormR (.mk 4 t n ps fs vs) := by
 by_cases ht0 : t.toList = []
 ·by_cases hn0 : n = 0
  ·by_cases hnp : ps.length = 0
   ·exact form_4y t n ps fs vs hp hf hv hnf hnv hpa ht0 hn0 hnp
   ·exact form_4p t n ps fs vs hp hf hv hnf hnv hpa ht0 hn0 hnp
  ·exact form_4n t n ps fs vs hp hf hv hnf hnv hpa ht0 hn0
 ·obtain ⟨a0, l0, h⟩ := List.exists_cons_of_ne_nil ht0
  exact form_4t t n ps fs vs hp hf hv hnf hnv hpa a0 l0 h
theorem form_step5 (t : ByteArray) (n : Int) (ps : List Ty) (fs : List (ByteArray × Int × Ty)) (vs : List (ByteArray × List Ty)) (hp : ∀ p ∈ ps, FormR p) (hf : ∀ f ∈ fs, FormR f.2.2) (hv : ∀ v ∈ vs, ∀ b ∈ v.2, FormR b) (hnf : fs.length = 0) (hnv : vs.length = 0) (hpa : ps.all formT = true) : FormR (.mk 5 t n ps fs vs) := by
 by_cases ht0 : t.toList = []
 ·by_cases hn0 : n = 0
  ·by_cases hnp : ps.length = 0
   ·exact form_5y t n ps fs vs hp hf hv hnf hnv hpa ht0 hn0 hnp
   ·exact form_5p t n ps fs vs hp hf hv hnf hnv hpa ht0 hn0 hnp
  ·exact form_5n t n ps fs vs hp hf hv hnf hnv hpa ht0 hn0
 ·obtain ⟨a0, l0, h⟩ := List.exists_cons_of_ne_nil ht0
  exact form_5t t n ps fs vs hp hf hv hnf hnv hpa a0 l0 h
theorem form_step6 (t : ByteArray) (n : Int) (ps : List Ty) (fs : List (ByteArray × Int × Ty)) (vs : List (ByteArray × List Ty)) (hp : ∀ p ∈ ps, FormR p) (hf : ∀ f ∈ fs, FormR f.2.2) (hv : ∀ v ∈ vs, ∀ b ∈ v.2, FormR b) (hnf : fs.length = 0) (hnv : vs.length = 0) (hpa : ps.all formT = true) : FormR (.mk 6 t n ps fs vs) := by
 by_cases ht0 : t.toList = []
 ·by_cases hn0 : n = 0
  ·by_cases hnp : ps.length = 0
   ·exact form_6y t n ps fs vs hp hf hv hnf hnv hpa ht0 hn0 hnp
   ·exact form_6p t n ps fs vs hp hf hv hnf hnv hpa ht0 hn0 hnp
  ·exact form_6n t n ps fs vs hp hf hv hnf hnv hpa ht0 hn0
 ·obtain ⟨a0, l0, h⟩ := List.exists_cons_of_ne_nil ht0
  exact form_6t t n ps fs vs hp hf hv hnf hnv hpa a0 l0 h
theorem form_step7 (t : ByteArray) (n : Int) (ps : List Ty) (fs : List (ByteArray × Int × Ty)) (vs : List (ByteArray × List Ty)) (hp : ∀ p ∈ ps, FormR p) (hf : ∀ f ∈ fs, FormR f.2.2) (hv : ∀ v ∈ vs, ∀ b ∈ v.2, FormR b) (hnf : fs.length = 0) (hnv : vs.length = 0) (hpa : ps.all formT = true) : FormR (.mk 7 t n ps fs vs) := by
 by_cases ht0 : t.toList = []
 ·by_cases hn0 : n = 0
  ·by_cases hnp : ps.length = 0
   ·exact form_7y t n ps fs vs hp hf hv hnf hnv hpa ht0 hn0 hnp
   ·exact form_7p t n ps fs vs hp hf hv hnf hnv hpa ht0 hn0 hnp
  ·exact form_7n t n ps fs vs hp hf hv hnf hnv hpa ht0 hn0
 ·obtain ⟨a0, l0, h⟩ := List.exists_cons_of_ne_nil ht0
  exact form_7t t n ps fs vs hp hf hv hnf hnv hpa a0 l0 h
theorem form_step8 (t : ByteArray) (n : Int) (ps : List Ty) (fs : List (ByteArray × Int × Ty)) (vs : List (ByteArray × List Ty)) (hp : ∀ p ∈ ps, FormR p) (hf : ∀ f ∈ fs, FormR f.2.2) (hv : ∀ v ∈ vs, ∀ b ∈ v.2, FormR b) (hnf : fs.length = 0) (hnv : vs.length = 0) (hpa : ps.all formT = true) : FormR (.mk 8 t n ps fs vs) := by
 by_cases ht0 : t.toList = []
 ·by_cases hn0 : n = 0
  ·by_cases hnp : ps.length = 0
   ·exact form_8y t n ps fs vs hp hf hv hnf hnv hpa ht0 hn0 hnp
   ·exact form_8p t n ps fs vs hp hf hv hnf hnv hpa ht0 hn0 hnp
  ·exact form_8n t n ps fs vs hp hf hv hnf hnv hpa ht0 hn0
 ·obtain ⟨a0, l0, h⟩ := List.exists_cons_of_ne_nil ht0
  exact form_8t t n ps fs vs hp hf hv hnf hnv hpa a0 l0 h
theorem form_step9 (t : ByteArray) (n : Int) (ps : List Ty) (fs : List (ByteArray × Int × Ty)) (vs : List (ByteArray × List Ty)) (hp : ∀ p ∈ ps, FormR p) (hf : ∀ f ∈ fs, FormR f.2.2) (hv : ∀ v ∈ vs, ∀ b ∈ v.2, FormR b) (hnf : fs.length = 0) (hnv : vs.length = 0) (hpa : ps.all formT = true) : FormR (.mk 9 t n ps fs vs) := by
 by_cases ht0 : t.toList = []
 ·by_cases hn0 : 0 ≤ n
  ·by_cases hnp : ps.length = 0
   ·exact form_9y t n ps fs vs hp hf hv hnf hnv hpa ht0 hn0 hnp
   ·exact form_9p t n ps fs vs hp hf hv hnf hnv hpa ht0 hn0 hnp
  ·exact form_9n t n ps fs vs hp hf hv hnf hnv hpa ht0 hn0
 ·obtain ⟨a0, l0, h⟩ := List.exists_cons_of_ne_nil ht0
  exact form_9t t n ps fs vs hp hf hv hnf hnv hpa a0 l0 h
theorem form_step10 (t : ByteArray) (n : Int) (ps : List Ty) (fs : List (ByteArray × Int × Ty)) (vs : List (ByteArray × List Ty)) (hp : ∀ p ∈ ps, FormR p) (hf : ∀ f ∈ fs, FormR f.2.2) (hv : ∀ v ∈ vs, ∀ b ∈ v.2, FormR b) (hnf : fs.length = 0) (hnv : vs.length = 0) (hpa : ps.all formT = true) : FormR (.mk 10 t n ps fs vs) := by
 by_cases hn0 : n = 0
 ·by_cases hnp : ps.length = 0
  ·exact form_10y t n ps fs vs hp hf hv hnf hnv hpa hn0 hnp
  ·exact form_10p t n ps fs vs hp hf hv hnf hnv hpa hn0 hnp
 ·exact form_10n t n ps fs vs hp hf hv hnf hnv hpa hn0
theorem form_step11 (t : ByteArray) (n : Int) (ps : List Ty) (fs : List (ByteArray × Int × Ty)) (vs : List (ByteArray × List Ty)) (hp : ∀ p ∈ ps, FormR p) (hf : ∀ f ∈ fs, FormR f.2.2) (hv : ∀ v ∈ vs, ∀ b ∈ v.2, FormR b) (hnf : fs.length = 0) (hnv : vs.length = 0) (hpa : ps.all formT = true) : FormR (.mk 11 t n ps fs vs) := by
 by_cases ht0 : t.toList = []
 ·by_cases hn0 : n = 0
  ·by_cases hnp : ps.length = 1
   ·exact form_11y t n ps fs vs hp hf hv hnf hnv hpa ht0 hn0 hnp
   ·exact form_11p t n ps fs vs hp hf hv hnf hnv hpa ht0 hn0 hnp
  ·exact form_11n t n ps fs vs hp hf hv hnf hnv hpa ht0 hn0
 ·obtain ⟨a0, l0, h⟩ := List.exists_cons_of_ne_nil ht0
  exact form_11t t n ps fs vs hp hf hv hnf hnv hpa a0 l0 h
theorem form_step12 (t : ByteArray) (n : Int) (ps : List Ty) (fs : List (ByteArray × Int × Ty)) (vs : List (ByteArray × List Ty)) (hp : ∀ p ∈ ps, FormR p) (hf : ∀ f ∈ fs, FormR f.2.2) (hv : ∀ v ∈ vs, ∀ b ∈ v.2, FormR b) (hnf : fs.length = 0) (hnv : vs.length = 0) (hpa : ps.all formT = true) : FormR (.mk 12 t n ps fs vs) := by
 by_cases ht0 : t.toList = []
 ·by_cases hn0 : n = 0
  ·exact form_12y t n ps fs vs hp hf hv hnf hnv hpa ht0 hn0
  ·exact form_12n t n ps fs vs hp hf hv hnf hnv hpa ht0 hn0
 ·obtain ⟨a0, l0, h⟩ := List.exists_cons_of_ne_nil ht0
  exact form_12t t n ps fs vs hp hf hv hnf hnv hpa a0 l0 h
theorem form_step13 (t : ByteArray) (n : Int) (ps : List Ty) (fs : List (ByteArray × Int × Ty)) (vs : List (ByteArray × List Ty)) (hp : ∀ p ∈ ps, FormR p) (hf : ∀ f ∈ fs, FormR f.2.2) (hv : ∀ v ∈ vs, ∀ b ∈ v.2, FormR b) (hnf : fs.length = 0) (hpa : ps.all formT = true) : FormR (.mk 13 t n ps fs vs) := by
 by_cases ht0 : t.toList = []
 ·by_cases hn0 : n = 0
  ·by_cases hnp : 1 ≤ ps.length
   ·cases hq : varsB (varsT vs formT) with
    | false => exact form_13bf t n ps fs vs hp hf hv hnf hpa ht0 hn0 hnp hq
    | true => exact form_13bt t n ps fs vs hp hf hv hnf hpa ht0 hn0 hnp hq
   ·exact form_13p t n ps fs vs hp hf hv hnf hpa ht0 hn0 hnp
  ·exact form_13n t n ps fs vs hp hf hv hnf hpa ht0 hn0
 ·obtain ⟨a0, l0, h⟩ := List.exists_cons_of_ne_nil ht0
  exact form_13t t n ps fs vs hp hf hv hnf hpa a0 l0 h
theorem form_step14 (t : ByteArray) (n : Int) (ps : List Ty) (fs : List (ByteArray × Int × Ty)) (vs : List (ByteArray × List Ty)) (hp : ∀ p ∈ ps, FormR p) (hf : ∀ f ∈ fs, FormR f.2.2) (hv : ∀ v ∈ vs, ∀ b ∈ v.2, FormR b) (hnv : vs.length = 0) (hpa : ps.all formT = true) : FormR (.mk 14 t n ps fs vs) := by
 by_cases ht0 : t.toList = []
 ·by_cases hn0 : n = 0
  ·by_cases hnp : ps.length = 0
   ·cases hq : fieldsB (fieldsT fs formT) with
    | false => exact form_14bf t n ps fs vs hp hf hv hnv hpa ht0 hn0 hnp hq
    | true => exact form_14bt t n ps fs vs hp hf hv hnv hpa ht0 hn0 hnp hq
   ·exact form_14p t n ps fs vs hp hf hv hnv hpa ht0 hn0 hnp
  ·exact form_14n t n ps fs vs hp hf hv hnv hpa ht0 hn0
 ·obtain ⟨a0, l0, h⟩ := List.exists_cons_of_ne_nil ht0
  exact form_14t t n ps fs vs hp hf hv hnv hpa a0 l0 h
theorem form_step16 (t : ByteArray) (n : Int) (ps : List Ty) (fs : List (ByteArray × Int × Ty)) (vs : List (ByteArray × List Ty)) (hp : ∀ p ∈ ps, FormR p) (hf : ∀ f ∈ fs, FormR f.2.2) (hv : ∀ v ∈ vs, ∀ b ∈ v.2, FormR b) (hnf : fs.length = 0) (hnv : vs.length = 0) (hpa : ps.all formT = true) : FormR (.mk 16 t n ps fs vs) := by
 cases hnm : nameT t with
 | false => exact form_16m t n ps fs vs hp hf hv hnf hnv hpa hnm
 | true =>
  by_cases hn0 : n = 0
  ·by_cases hnp : ps.length = 0
   ·exact form_16y t n ps fs vs hp hf hv hnf hnv hpa hnm hn0 hnp
   ·exact form_16p t n ps fs vs hp hf hv hnf hnv hpa hnm hn0 hnp
  ·exact form_16n t n ps fs vs hp hf hv hnf hnv hpa hnm hn0
theorem form_step17 (t : ByteArray) (n : Int) (ps : List Ty) (fs : List (ByteArray × Int × Ty)) (vs : List (ByteArray × List Ty)) (hp : ∀ p ∈ ps, FormR p) (hf : ∀ f ∈ fs, FormR f.2.2) (hv : ∀ v ∈ vs, ∀ b ∈ v.2, FormR b) (hnf : fs.length = 0) (hnv : vs.length = 0) (hpa : ps.all formT = true) : FormR (.mk 17 t n ps fs vs) := by
 cases hnm : nameT t with
 | false => exact form_17m t n ps fs vs hp hf hv hnf hnv hpa hnm
 | true =>
  by_cases hn0 : n = 0
  ·exact form_17y t n ps fs vs hp hf hv hnf hnv hpa hnm hn0
  ·exact form_17n t n ps fs vs hp hf hv hnf hnv hpa hnm hn0
theorem form_step18 (t : ByteArray) (n : Int) (ps : List Ty) (fs : List (ByteArray × Int × Ty)) (vs : List (ByteArray × List Ty)) (hp : ∀ p ∈ ps, FormR p) (hf : ∀ f ∈ fs, FormR f.2.2) (hv : ∀ v ∈ vs, ∀ b ∈ v.2, FormR b) (hnf : fs.length = 0) (hnv : vs.length = 0) (hpa : ps.all formT = true) : FormR (.mk 18 t n ps fs vs) := by
 by_cases ht0 : t.toList = []
 ·by_cases hn0 : n = 0
  ·by_cases hnp : ps.length = 1
   ·exact form_18y t n ps fs vs hp hf hv hnf hnv hpa ht0 hn0 hnp
   ·exact form_18p t n ps fs vs hp hf hv hnf hnv hpa ht0 hn0 hnp
  ·exact form_18n t n ps fs vs hp hf hv hnf hnv hpa ht0 hn0
 ·obtain ⟨a0, l0, h⟩ := List.exists_cons_of_ne_nil ht0
  exact form_18t t n ps fs vs hp hf hv hnf hnv hpa a0 l0 h
theorem form_step19 (t : ByteArray) (n : Int) (ps : List Ty) (fs : List (ByteArray × Int × Ty)) (vs : List (ByteArray × List Ty)) (hp : ∀ p ∈ ps, FormR p) (hf : ∀ f ∈ fs, FormR f.2.2) (hv : ∀ v ∈ vs, ∀ b ∈ v.2, FormR b) (hnf : fs.length = 0) (hnv : vs.length = 0) (hpa : ps.all formT = true) : FormR (.mk 19 t n ps fs vs) := by
 by_cases ht0 : t.toList = []
 ·by_cases hn0 : n = 0
  ·by_cases hnp : ps.length = 2
   ·exact form_19y t n ps fs vs hp hf hv hnf hnv hpa ht0 hn0 hnp
   ·exact form_19p t n ps fs vs hp hf hv hnf hnv hpa ht0 hn0 hnp
  ·exact form_19n t n ps fs vs hp hf hv hnf hnv hpa ht0 hn0
 ·obtain ⟨a0, l0, h⟩ := List.exists_cons_of_ne_nil ht0
  exact form_19t t n ps fs vs hp hf hv hnf hnv hpa a0 l0 h
theorem form_step20 (t : ByteArray) (n : Int) (ps : List Ty) (fs : List (ByteArray × Int × Ty)) (vs : List (ByteArray × List Ty)) (hp : ∀ p ∈ ps, FormR p) (hf : ∀ f ∈ fs, FormR f.2.2) (hv : ∀ v ∈ vs, ∀ b ∈ v.2, FormR b) (hnf : fs.length = 0) (hnv : vs.length = 0) (hpa : ps.all formT = true) : FormR (.mk 20 t n ps fs vs) := by
 cases hnm : nameT t with
 | false => exact form_20m t n ps fs vs hp hf hv hnf hnv hpa hnm
 | true =>
  by_cases hn0 : 0 ≤ n
  ·by_cases hn3 : n ≤ 3
   ·by_cases hnp : ps.length = 2
    ·exact form_20y t n ps fs vs hp hf hv hnf hnv hpa hnm hn0 hn3 hnp
    ·exact form_20p t n ps fs vs hp hf hv hnf hnv hpa hnm hn0 hn3 hnp
   ·exact form_20o t n ps fs vs hp hf hv hnf hnv hpa hnm hn0 hn3
  ·exact form_20n t n ps fs vs hp hf hv hnf hnv hpa hnm hn0
theorem form_step21 (t : ByteArray) (n : Int) (ps : List Ty) (fs : List (ByteArray × Int × Ty)) (vs : List (ByteArray × List Ty)) (hp : ∀ p ∈ ps, FormR p) (hf : ∀ f ∈ fs, FormR f.2.2) (hv : ∀ v ∈ vs, ∀ b ∈ v.2, FormR b) (hnf : fs.length = 0) (hnv : vs.length = 0) (hpa : ps.all formT = true) : FormR (.mk 21 t n ps fs vs) := by
 by_cases hnp : ps.length = 4
 ·by_cases hn0 : n = 0
  ·by_cases ht0 : t.toList = []
   ·exact form_21a t n ps fs vs hp hf hv hnf hnv hpa hnp hn0 ht0
   ·obtain ⟨a0, l0, h⟩ := List.exists_cons_of_ne_nil ht0
    exact form_21b t n ps fs vs hp hf hv hnf hnv hpa hnp hn0 a0 l0 h
  ·by_cases hn1 : n = 1
   ·cases hnm : nameT t with
    | false => exact form_21mf t n ps fs vs hp hf hv hnf hnv hpa hnp hn0 hn1 hnm
    | true => exact form_21mt t n ps fs vs hp hf hv hnf hnv hpa hnp hn0 hn1 hnm
   ·exact form_21c t n ps fs vs hp hf hv hnf hnv hpa hnp hn0 hn1
 ·exact form_21p t n ps fs vs hp hf hv hnf hnv hpa hnp
theorem form_step22 (t : ByteArray) (n : Int) (ps : List Ty) (fs : List (ByteArray × Int × Ty)) (vs : List (ByteArray × List Ty)) (hp : ∀ p ∈ ps, FormR p) (hf : ∀ f ∈ fs, FormR f.2.2) (hv : ∀ v ∈ vs, ∀ b ∈ v.2, FormR b) (hnf : fs.length = 0) (hnv : vs.length = 0) (hpa : ps.all formT = true) : FormR (.mk 22 t n ps fs vs) := by
 cases hnm : nameT t with
 | false => exact form_22m t n ps fs vs hp hf hv hnf hnv hpa hnm
 | true =>
  by_cases hn0 : n = 0
  ·by_cases hnp : ps.length = 0
   ·exact form_22y t n ps fs vs hp hf hv hnf hnv hpa hnm hn0 hnp
   ·exact form_22p t n ps fs vs hp hf hv hnf hnv hpa hnm hn0 hnp
  ·exact form_22n t n ps fs vs hp hf hv hnf hnv hpa hnm hn0
theorem form_step23 (t : ByteArray) (n : Int) (ps : List Ty) (fs : List (ByteArray × Int × Ty)) (vs : List (ByteArray × List Ty)) (hp : ∀ p ∈ ps, FormR p) (hf : ∀ f ∈ fs, FormR f.2.2) (hv : ∀ v ∈ vs, ∀ b ∈ v.2, FormR b) (hnf : fs.length = 0) (hnv : vs.length = 0) (hpa : ps.all formT = true) : FormR (.mk 23 t n ps fs vs) := by
 by_cases ht0 : t.toList = []
 ·by_cases hn0 : n = 0
  ·by_cases hnp : 2 ≤ ps.length
   ·cases hq : overT ps with
    | false => exact form_23bf t n ps fs vs hp hf hv hnf hnv hpa ht0 hn0 hnp hq
    | true => exact form_23bt t n ps fs vs hp hf hv hnf hnv hpa ht0 hn0 hnp hq
   ·exact form_23p t n ps fs vs hp hf hv hnf hnv hpa ht0 hn0 hnp
  ·exact form_23n t n ps fs vs hp hf hv hnf hnv hpa ht0 hn0
 ·obtain ⟨a0, l0, h⟩ := List.exists_cons_of_ne_nil ht0
  exact form_23t t n ps fs vs hp hf hv hnf hnv hpa a0 l0 h
theorem formr_step (k : Int) (t : ByteArray) (n : Int) (ps : List Ty) (fs : List (ByteArray × Int × Ty)) (vs : List (ByteArray × List Ty)) (hp : ∀ p ∈ ps, FormR p) (hf : ∀ f ∈ fs, FormR f.2.2) (hv : ∀ v ∈ vs, ∀ b ∈ v.2, FormR b) : FormR (.mk k t n ps fs vs) := by
 by_cases h14 : k = 14
 ·subst h14
  by_cases hnv : vs.length = 0
  ·cases hpa : ps.all formT with
   | false => exact form_pa14 t n ps fs vs hp hf hv hnv hpa
   | true => exact form_step14 t n ps fs vs hp hf hv hnv hpa
  ·exact form_nv14 t n ps fs vs hp hf hv (by omega)
 by_cases hnf : fs.length = 0
 ·by_cases h13 : k = 13
  ·subst h13
   cases hpa : ps.all formT with
   | false => exact form_pa13 t n ps fs vs hp hf hv hnf hpa
   | true => exact form_step13 t n ps fs vs hp hf hv hnf hpa
  by_cases hnv : vs.length = 0
  ·cases hpa : ps.all formT with
   | false => exact form_pa k t n ps fs vs hp hf hv h14 hnf h13 hnv hpa
   | true =>
    by_cases h1 : k = 1
    ·subst h1; exact form_step1 t n ps fs vs hp hf hv hnf hnv hpa
    by_cases h2 : k = 2
    ·subst h2; exact form_step2 t n ps fs vs hp hf hv hnf hnv hpa
    by_cases h3 : k = 3
    ·subst h3; exact form_step3 t n ps fs vs hp hf hv hnf hnv hpa
    by_cases h4 : k = 4
    ·subst h4; exact form_step4 t n ps fs vs hp hf hv hnf hnv hpa
    by_cases h5 : k = 5
    ·subst h5; exact form_step5 t n ps fs vs hp hf hv hnf hnv hpa
    by_cases h6 : k = 6
    ·subst h6; exact form_step6 t n ps fs vs hp hf hv hnf hnv hpa
    by_cases h7 : k = 7
    ·subst h7; exact form_step7 t n ps fs vs hp hf hv hnf hnv hpa
    by_cases h8 : k = 8
    ·subst h8; exact form_step8 t n ps fs vs hp hf hv hnf hnv hpa
    by_cases h9 : k = 9
    ·subst h9; exact form_step9 t n ps fs vs hp hf hv hnf hnv hpa
    by_cases h10 : k = 10
    ·subst h10; exact form_step10 t n ps fs vs hp hf hv hnf hnv hpa
    by_cases h11 : k = 11
    ·subst h11; exact form_step11 t n ps fs vs hp hf hv hnf hnv hpa
    by_cases h12 : k = 12
    ·subst h12; exact form_step12 t n ps fs vs hp hf hv hnf hnv hpa
    by_cases h15 : k = 15
    ·subst h15; exact form_step15 t n ps fs vs hp hf hv hnf hnv hpa
    by_cases h16 : k = 16
    ·subst h16; exact form_step16 t n ps fs vs hp hf hv hnf hnv hpa
    by_cases h17 : k = 17
    ·subst h17; exact form_step17 t n ps fs vs hp hf hv hnf hnv hpa
    by_cases h18 : k = 18
    ·subst h18; exact form_step18 t n ps fs vs hp hf hv hnf hnv hpa
    by_cases h19 : k = 19
    ·subst h19; exact form_step19 t n ps fs vs hp hf hv hnf hnv hpa
    by_cases h20 : k = 20
    ·subst h20; exact form_step20 t n ps fs vs hp hf hv hnf hnv hpa
    by_cases h21 : k = 21
    ·subst h21; exact form_step21 t n ps fs vs hp hf hv hnf hnv hpa
    by_cases h22 : k = 22
    ·subst h22; exact form_step22 t n ps fs vs hp hf hv hnf hnv hpa
    by_cases h23 : k = 23
    ·subst h23; exact form_step23 t n ps fs vs hp hf hv hnf hnv hpa
    exact form_no k t n ps fs vs hp hf hv h1 h2 h3 h4 h5 h6 h7 h8 h9 h10 h11 h12 h13 h14 h15 h16 h17 h18 h19 h20 h21 h22 h23 hnf hnv hpa
  ·exact form_nv k t n ps fs vs hp hf hv h14 hnf h13 (by omega)
 ·exact form_nf k t n ps fs vs hp hf hv h14 (by omega)
theorem form_ref (t : Ty) : FormR t := Ty.ind (C := FormR) (fun k t n ps fs vs hp hf hv => formr_step k t n ps fs vs hp hf hv) t
def OkPost (K : Nat → Prop) (w : World) (t : Ty) : Ending → World → Prop := fun e w' => ∃ rs, e = .returned (.tuple #[.agg rs.toArray, .int .i64 0]) ∧ RepT (fun b => K b ∨ w.heap.size ≤ b) w' t rs ∧ Below w.heap.size w w'
set_option maxRecDepth 100000 in
set_option maxHeartbeats 32000000 in
theorem evalat_ok {K : Nat → Prop} {w : World} {t q : Ty} {cs ds : List Value} (hr : RepT K w t cs) (hp : RepT K w q ds) (hlo : ∀ b, K b → b < w.heap.size) (hft : formedT t = true) (hfq : formedT q = true) :
  Calls Tryz.prog 8 #[.agg cs.toArray, .agg ds.toArray] w (OkPost K w (atT t q)) := by
 have hfT : formT t = true ∧ cntT t ≤ 5000 := by
  unfold formedT at hft
  rw [Bool.and_eq_true, decide_eq_true_eq] at hft
  exact ⟨hft.2, by omega⟩
 have hfQ : formT q = true ∧ cntT q ≤ 5000 := by
  unfold formedT at hfq
  rw [Bool.and_eq_true, decide_eq_true_eq] at hfq
  exact ⟨hfq.2, by omega⟩
 generalize hu : atT t q = u
 have KA := Lib.hid fun wx (hx : Below w.heap.size w wx) => at_any t q K wx cs ds (hr.later hx) (hp.later hx) (fun b h => Nat.lt_of_lt_of_le (hlo b h) hx.size) hfT.1 hfQ.1 hfT.2 hfQ.2
 rw [hu] at KA
 obtain ⟨k2, s2, n2, ps2, fs2, vs2⟩ := u
 unfold OkPost
 clear hfT hfQ hu
 have KF1 := Lib.hid fun wx (hx : Below w.heap.size w wx) => Formed_any (hr.later hx)
 have KF2 := Lib.hid fun wx (hx : Below w.heap.size w wx) => Formed_any (hp.later hx)
 rw [hft] at KF1
 rw [hfq] at KF2
 obtain ⟨k, s, n, ps, fs, vs⟩ := t
 obtain ⟨A, c, A', c', A'', c'', rfl, -⟩ := hr.inv
 obtain ⟨k3, s3, n3, ps3, fs3, vs3⟩ := q
 obtain ⟨A3, c3, B3, d3, C3, e3, rfl, -⟩ := hp.inv
 simp only [cells6T] at KF1 KF2 KA ⊢
 obtain ⟨w1, hw1⟩ : ∃ x, x = ((w.alloc (.cells #[.int .i64 k, .string s, .int .i64 n, .slice A ps.length c, .slice A' fs.length c', .slice A'' vs.length c''] 26)).alloc (.cells #[.int .i64 k3, .string s3, .int .i64 n3, .slice A3 ps3.length c3, .slice B3 fs3.length d3, .slice C3 vs3.length e3] 26)).alloc (.cells #[.int .i64 0, .string ⟨#[]⟩, .int .i64 0, .slice none 0 0, .slice none 0 0, .slice none 0 0] 26) := ⟨_, rfl⟩
 obtain ⟨g, hgg⟩ : ∃ g, g = w.heap.size + 2 := ⟨_, rfl⟩
 have hb1 : Below w.heap.size w w1 := by rw [hw1]; exact (((Below.refl _ _).alloc (Nat.le_refl _) _).alloc (by simp) _).alloc (by simp; omega) _
 have hs1 : w1.heap.size = w.heap.size + 3 := by rw [hw1]; simp
 have hx0 : w1.heap[w.heap.size]? = some (.cells #[.int .i64 k, .string s, .int .i64 n, .slice A ps.length c, .slice A' fs.length c', .slice A'' vs.length c''] 26 (0, 0)) := by rw [hw1, Below.heap_alloc _ _ _ (by simp; omega), Below.heap_alloc _ _ _ (by simp)]; exact heap_alloc_new w _
 have hy0 : w1.heap[w.heap.size + 1]? = some (.cells #[.int .i64 k3, .string s3, .int .i64 n3, .slice A3 ps3.length c3, .slice B3 fs3.length d3, .slice C3 vs3.length e3] 26 (0, 0)) := by
  rw [hw1, Below.heap_alloc _ _ _ (by simp)]
  have h := heap_alloc_new (w.alloc (.cells #[.int .i64 k, .string s, .int .i64 n, .slice A ps.length c, .slice A' fs.length c', .slice A'' vs.length c''] 26)) (.cells #[.int .i64 k3, .string s3, .int .i64 n3, .slice A3 ps3.length c3, .slice B3 fs3.length d3, .slice C3 vs3.length e3] 26)
  rw [World.size_alloc] at h
  exact h
 have hx1 : w1.heap[g]? = some (.cells #[.int .i64 0, .string ⟨#[]⟩, .int .i64 0, .slice none 0 0, .slice none 0 0, .slice none 0 0] 26 (0, 0)) := by
  rw [hw1, hgg]
  have h := heap_alloc_new ((w.alloc (.cells #[.int .i64 k, .string s, .int .i64 n, .slice A ps.length c, .slice A' fs.length c', .slice A'' vs.length c''] 26)).alloc (.cells #[.int .i64 k3, .string s3, .int .i64 n3, .slice A3 ps3.length c3, .slice B3 fs3.length d3, .slice C3 vs3.length e3] 26)) (.cells #[.int .i64 0, .string ⟨#[]⟩, .int .i64 0, .slice none 0 0, .slice none 0 0, .slice none 0 0] 26)
  rw [World.size_alloc, World.size_alloc] at h
  exact h
 have HB1 := Lib.hid hb1
 have HS1 := Lib.hid hs1
 have HX0 := Lib.hid hx0
 have HY0 := Lib.hid hy0
 have HX1 := Lib.hid hx1
 have HW1 := Lib.hid hw1
 have HG := Lib.hid hgg
 have HLO := Lib.hid hlo
 clear hr hp hlo hb1 hs1 hx0 hy0 hx1 hw1 hgg hft hfq
 go_enter Tryz.func8, Tryz.ntmps8
 go_upto_region 1 with fail
 rw [← HW1.out, ← HG.out]
 obtain ⟨x0, x1, x2, x3, x4, x5⟩ := cz6 HX0.out
 obtain ⟨y0, y1, y2, y3, y4, y5⟩ := cz6 HY0.out
 go_wp2_with fail
 refine (KF1.out _ HB1.out).mono ?_
 rintro e w2 ⟨rfl, hb⟩
 have HZ2 := Lib.hid hb
 have HB2 := Lib.hid (HB1.out.trans (hb.mono HB1.out.size))
 have h2 := box_up hb (by have := HS1.out; omega) HX0.out
 have h3 := box_up hb (by have := HS1.out; omega) HY0.out
 clear x0 x1 x2 x3 x4 x5 y0 y1 y2 y3 y4 y5 hb KF1
 obtain ⟨x0, x1, x2, x3, x4, x5⟩ := cz6 h2
 obtain ⟨y0, y1, y2, y3, y4, y5⟩ := cz6 h3
 clear h2 h3
 go_wp2_with fail
 refine (KF2.out _ HB2.out).mono ?_
 rintro e w3 ⟨rfl, hb⟩
 have HZ3 := Lib.hid (HZ2.out.trans (hb.mono HZ2.out.size))
 have HB3 := Lib.hid (HB1.out.trans (HZ3.out.mono HB1.out.size))
 have h2 := box_up HZ3.out (by have := HS1.out; omega) HX0.out
 have h3 := box_up HZ3.out (by have := HS1.out; omega) HY0.out
 clear x0 x1 x2 x3 x4 x5 y0 y1 y2 y3 y4 y5 hb KF2
 obtain ⟨x0, x1, x2, x3, x4, x5⟩ := cz6 h2
 obtain ⟨y0, y1, y2, y3, y4, y5⟩ := cz6 h3
 clear h2 h3
 go_wp2_with fail
 refine (KA.out _ HB3.out).mono ?_
 rintro e w4 ⟨rs, rfl, hr4, hb4⟩
 have HB4 := Lib.hid (HB3.out.trans (hb4.mono HB3.out.size))
 have HZ4 := Lib.hid (HZ3.out.trans (hb4.mono HZ3.out.size))
 have rb := box_up HZ4.out (by have := HG.out; have := HS1.out; omega) HX1.out
 have hr5 : RepT (fun b => K b ∨ g < b) w4 (.mk k2 s2 n2 ps2 fs2 vs2) rs := hr4.weak fun b h => h.imp id fun h => by have := HG.out; have := HS1.out; have := HZ3.out.size; omega
 obtain ⟨Aq, cq, Ag, cg, Ah, ch, rfl, -⟩ := hr5.inv
 have HR5 := Lib.hid hr5
 simp only [cells6T] at HR5 ⊢
 clear hr4 hb4 hr5 KA x0 x1 x2 x3 x4 x5 y0 y1 y2 y3 y4 y5
 obtain ⟨q0, q1, q2, q3, q4, q5, z0, z1, z2, z3, z4, z5⟩ := qz6 rb
 have RBX := Lib.hid rb
 clear rb
 go_wp2_with fail
 have rs := six_set RBX.out (.int .i64 k2) (.string s2) (.int .i64 n2) (.slice Aq ps2.length cq) (.slice Ag fs2.length cg) (.slice Ah vs2.length ch)
 obtain ⟨r0, r1, r2, r3, r4, r5⟩ := cz6 rs
 clear q0 q1 q2 q3 q4 q5 z0 z1 z2 z3 z4 z5 RBX rs
 refine bodyPost_ret (v := .tuple #[.agg #[.int .i64 k2, .string s2, .int .i64 n2, .slice Aq ps2.length cq, .slice Ag fs2.length cg, .slice Ah vs2.length ch], .int .i64 0]) (by simp [results, Tryz.results8, go_sem, r0, r1, r2, r3, r4, r5]) rfl ?_
 clear r0 r1 r2 r3 r4 r5
 exact ⟨[.int .i64 k2, .string s2, .int .i64 n2, .slice Aq ps2.length cq, .slice Ag fs2.length cg, .slice Ah vs2.length ch], rfl, ret_box HR5.out (fun b h => by have := HLO.out b h; have := HG.out; omega) (by have := HG.out; omega) _ _ _ _ _ _, set_six_below HB4.out (by have := HG.out; omega) _ _ _ _ _ _⟩
def ListPost (K : Nat → Prop) (w : World) (l : List Ty) : Ending → World → Prop := fun e w' => ∃ A c, e = .returned (.slice A l.length c) ∧ ListT (fun b => K b ∨ w.heap.size ≤ b) w' l A c ∧ Below w.heap.size w w'
set_option maxRecDepth 100000 in
set_option maxHeartbeats 16000000 in
theorem parts_15 {K : Nat → Prop} {w : World} (s : ByteArray) (n : Int) (ps : List Ty) (fs : List (ByteArray × Int × Ty)) (vs : List (ByteArray × List Ty)) {cs : List Value} (hr : RepT K w (.mk 15 s n ps fs vs) cs) (hlo : ∀ b, K b → b < w.heap.size) (hn : ps.length ≤ 1099511627776) :
  Calls Tryz.prog 23 #[.agg cs.toArray] w (ListPost K w (ps)) := by
 obtain ⟨A, c, A', c', A'', c'', rfl, -, hL, -, -⟩ := hr.inv
 simp only [cells6T] at hr ⊢
 obtain ⟨w1, hw1⟩ : ∃ x, x = w.alloc (.cells #[.int .i64 15, .string s, .int .i64 n, .slice A ps.length c, .slice A' fs.length c', .slice A'' vs.length c''] 26) := ⟨_, rfl⟩
 have hb1 : Below w.heap.size w w1 := by rw [hw1]; exact (Below.refl _ _).alloc (Nat.le_refl _) _
 have hs1 : w1.heap.size = w.heap.size + 1 := by rw [hw1]; simp
 have hx0 : w1.heap[w.heap.size]? = some (.cells #[.int .i64 15, .string s, .int .i64 n, .slice A ps.length c, .slice A' fs.length c', .slice A'' vs.length c''] 26 (0, 0)) := by rw [hw1]; exact heap_alloc_new w _
 have HB1 := Lib.hid hb1
 have HS1 := Lib.hid hs1
 have HX0 := Lib.hid hx0
 have HW1 := Lib.hid hw1
 have HLO := Lib.hid hlo
 have HL := Lib.hid (hL.later hb1)
 have HR := Lib.hid (hr.later hb1)
 have HN := Lib.hid hn
 clear hn
 unfold ListPost
 clear hr hlo hL hb1 hs1 hx0 hw1
 go_enter Tryz.func23, Tryz.ntmps23
 go_upto_region 1 with fail
 rw [← HW1.out]
 obtain ⟨x0, x1, x2, x3, x4, x5⟩ := cz6 HX0.out
 go_wp2_with (at_builtin; refine wpList_plain rfl fun Kx hK => ?_; go_loud (refine wp_append_many (w0 := w1) (ts := []) (l := ps) _ _ rfl (by rfl) (by rfl) ⟨⟨[], World.ownsRow_nil _ _ _ _, fun i h => absurd h (by simp)⟩⟩ HL.out (Below.refl _ _) (by simpa using HN.out) ?_))
 intro v3 w3 ho3 hb3 _
 refine hK _ _ ?_
 clear hK Kx
 obtain ⟨A4, c4, rfl, hl4⟩ := ho3.list (fun b h => by have := HLO.out b h; have := HS1.out; omega) hb3 (by have := HN.out; omega)
 have HL4 := Lib.hid (And.intro hl4 (HB1.out.trans (hb3.mono HB1.out.size)))
 clear ho3 hl4 hb3 x0 x1 x2 x3 x4 x5
 go_wp2_with fail
 go_ret
 exact ⟨A4, c4, rfl, HL4.out.1.weak fun b h => h.imp id fun h => by have := HS1.out; omega, HL4.out.2⟩
set_option maxRecDepth 100000 in
set_option maxHeartbeats 16000000 in
theorem parts_1 {K : Nat → Prop} {w : World} (s : ByteArray) (n : Int) (ps : List Ty) (fs : List (ByteArray × Int × Ty)) (vs : List (ByteArray × List Ty)) {cs : List Value} (hr : RepT K w (.mk 1 s n ps fs vs) cs) (hlo : ∀ b, K b → b < w.heap.size)  :
  Calls Tryz.prog 23 #[.agg cs.toArray] w (ListPost K w ([])) := by
 obtain ⟨A, c, A', c', A'', c'', rfl, -, hL, -, -⟩ := hr.inv
 simp only [cells6T] at hr ⊢
 obtain ⟨w1, hw1⟩ : ∃ x, x = w.alloc (.cells #[.int .i64 1, .string s, .int .i64 n, .slice A ps.length c, .slice A' fs.length c', .slice A'' vs.length c''] 26) := ⟨_, rfl⟩
 have hb1 : Below w.heap.size w w1 := by rw [hw1]; exact (Below.refl _ _).alloc (Nat.le_refl _) _
 have hs1 : w1.heap.size = w.heap.size + 1 := by rw [hw1]; simp
 have hx0 : w1.heap[w.heap.size]? = some (.cells #[.int .i64 1, .string s, .int .i64 n, .slice A ps.length c, .slice A' fs.length c', .slice A'' vs.length c''] 26 (0, 0)) := by rw [hw1]; exact heap_alloc_new w _
 have HB1 := Lib.hid hb1
 have HS1 := Lib.hid hs1
 have HX0 := Lib.hid hx0
 have HW1 := Lib.hid hw1
 have HLO := Lib.hid hlo
 have HL := Lib.hid (hL.later hb1)
 have HR := Lib.hid (hr.later hb1)
 unfold ListPost
 clear hr hlo hL hb1 hs1 hx0 hw1
 go_enter Tryz.func23, Tryz.ntmps23
 go_upto_region 1 with fail
 rw [← HW1.out]
 obtain ⟨x0, x1, x2, x3, x4, x5⟩ := cz6 HX0.out
 go_wp2_with fail
 go_ret
 exact ⟨none, 0, rfl, ⟨0, 0, ⟨by simp, by simp, fun _ => rfl, fun h => absurd h (by simp)⟩, fun i h => absurd h (by simp)⟩, HB1.out⟩
set_option maxRecDepth 100000 in
set_option maxHeartbeats 16000000 in
theorem parts_no {K : Nat → Prop} {w : World} (k : Int) (s : ByteArray) (n : Int) (ps : List Ty) (fs : List (ByteArray × Int × Ty)) (vs : List (ByteArray × List Ty)) {cs : List Value} (hr : RepT K w (.mk k s n ps fs vs) cs) (hlo : ∀ b, K b → b < w.heap.size) (h15 : k ≠ 15) (h1 : k ≠ 1) :
  Calls Tryz.prog 23 #[.agg cs.toArray] w (ListPost K w ([.mk k s n ps fs vs])) := by
 obtain ⟨A, c, A', c', A'', c'', rfl, -, hL, -, -⟩ := hr.inv
 simp only [cells6T] at hr ⊢
 obtain ⟨w1, hw1⟩ : ∃ x, x = w.alloc (.cells #[.int .i64 k, .string s, .int .i64 n, .slice A ps.length c, .slice A' fs.length c', .slice A'' vs.length c''] 26) := ⟨_, rfl⟩
 have hb1 : Below w.heap.size w w1 := by rw [hw1]; exact (Below.refl _ _).alloc (Nat.le_refl _) _
 have hs1 : w1.heap.size = w.heap.size + 1 := by rw [hw1]; simp
 have hx0 : w1.heap[w.heap.size]? = some (.cells #[.int .i64 k, .string s, .int .i64 n, .slice A ps.length c, .slice A' fs.length c', .slice A'' vs.length c''] 26 (0, 0)) := by rw [hw1]; exact heap_alloc_new w _
 have HB1 := Lib.hid hb1
 have HS1 := Lib.hid hs1
 have HX0 := Lib.hid hx0
 have HW1 := Lib.hid hw1
 have HLO := Lib.hid hlo
 have HL := Lib.hid (hL.later hb1)
 have HR := Lib.hid (hr.later hb1)
 have f1 : (k == 15) = false := beq_eq_false_iff_ne.2 h15
 have f2 : (k == 1) = false := beq_eq_false_iff_ne.2 h1
 clear h15 h1
 unfold ListPost
 clear hr hlo hL hb1 hs1 hx0 hw1
 go_enter Tryz.func23, Tryz.ntmps23
 go_upto_region 1 with fail
 rw [← HW1.out]
 obtain ⟨x0, x1, x2, x3, x4, x5⟩ := cz6 HX0.out
 go_wp2_with fail
 go_ret
 have hbb : Below w.heap.size w (w1.alloc (.cells #[.int .i64 k, .string s, .int .i64 n, .slice A ps.length c, .slice A' fs.length c', .slice A'' vs.length c''] 26)) := HB1.out.alloc HB1.out.size _
 refine ⟨some ⟨w1.heap.size, 0, none⟩, 1, rfl, ?_, hbb⟩
 have h := list_lit (g := w1.heap.size) HR.out ((Below.refl _ _).alloc (Nat.le_refl _) _) (fun b h => by have := HLO.out b h; have := HS1.out; omega) (heap_alloc_new w1 _)
 exact h.weak fun b h => h.imp id fun h => by have := HS1.out; omega
end Go.Proofs.YtllhfnpchplibaaGreatDoor
