import Derived.Test.YtlpfpehegddcfaaGreatDoorMn26
import Derived.Test.YtlpfpehegddcfaaGreatDoorMn27
import Derived.Test.YtlpfpehegddcfaaGreatDoorMn28
import Derived.Test.YtlpfpehegddcfaaGreatDoorMn29
import Derived.Test.YtlpfpehegddcfaaGreatDoorMn31
namespace Go.Proofs.YtlpfpehegddcfaaGreatDoor
set_option maxRecDepth 100000
set_option maxHeartbeats 64000000
open Go.RowKit
theorem form_step15 (t:ByteArray) (n:Int) (ps:List Ty) (fs:FsT) (vs:VsT) (hp:∀ p∈ps,FormR p) (hf:∀ f∈fs,FormR f.2.2) (hv:∀ v∈vs,∀ b∈v.2,FormR b) (hnf:fs.length=0) (hnv:vs.length=0) (hpa:ps.all formT=true):FormR (.mk 15 t n ps fs vs):=by
 by_cases ht0:t.toList=[]
 ·by_cases hn0:n=0
  ·by_cases hnp:2≤ps.length
   ·exact form_15y t n ps fs vs hp hf hv hnf hnv hpa ht0 hn0 hnp
   ·exact form_15p t n ps fs vs hp hf hv hnf hnv hpa ht0 hn0 hnp
  ·exact form_15n t n ps fs vs hp hf hv hnf hnv hpa ht0 hn0
 ·obtain⟨a0,l0,h⟩:=List.exists_cons_of_ne_nil ht0
  exact form_15t t n ps fs vs hp hf hv hnf hnv hpa a0 l0 h
theorem form_stepL (k:Int) (hk:k=1∨k=2∨k=3∨k=4∨k=5∨k=6∨k=7∨k=8) (t:ByteArray) (n:Int) (ps:List Ty) (fs:FsT) (vs:VsT) (hp:∀ p∈ps,FormR p) (hf:∀ f∈fs,FormR f.2.2) (hv:∀ v∈vs,∀ b∈v.2,FormR b) (hnf:fs.length=0) (hnv:vs.length=0) (hpa:ps.all formT=true):FormR (.mk k t n ps fs vs):=by
 by_cases ht0:t.toList=[]
 ·by_cases hn0:n=0
  ·by_cases hnp:ps.length=0
   ·exact form_Ly k hk t n ps fs vs hp hf hv hnf hnv hpa ht0 hn0 hnp
   ·exact form_Lp k hk t n ps fs vs hp hf hv hnf hnv hpa ht0 hn0 hnp
  ·exact form_Ln k hk t n ps fs vs hp hf hv hnf hnv hpa ht0 hn0
 ·obtain⟨a0,l0,h⟩:=List.exists_cons_of_ne_nil ht0
  exact form_Lt k hk t n ps fs vs hp hf hv hnf hnv hpa a0 l0 h
theorem form_step9 (t:ByteArray) (n:Int) (ps:List Ty) (fs:FsT) (vs:VsT) (hp:∀ p∈ps,FormR p) (hf:∀ f∈fs,FormR f.2.2) (hv:∀ v∈vs,∀ b∈v.2,FormR b) (hnf:fs.length=0) (hnv:vs.length=0) (hpa:ps.all formT=true):FormR (.mk 9 t n ps fs vs):=by
 by_cases ht0:t.toList=[]
 ·by_cases hn0:0≤n
  ·by_cases hnp:ps.length=0
   ·exact form_9y t n ps fs vs hp hf hv hnf hnv hpa ht0 hn0 hnp
   ·exact form_9p t n ps fs vs hp hf hv hnf hnv hpa ht0 hn0 hnp
  ·exact form_9n t n ps fs vs hp hf hv hnf hnv hpa ht0 hn0
 ·obtain⟨a0,l0,h⟩:=List.exists_cons_of_ne_nil ht0
  exact form_9t t n ps fs vs hp hf hv hnf hnv hpa a0 l0 h
theorem form_step10 (t:ByteArray) (n:Int) (ps:List Ty) (fs:FsT) (vs:VsT) (hp:∀ p∈ps,FormR p) (hf:∀ f∈fs,FormR f.2.2) (hv:∀ v∈vs,∀ b∈v.2,FormR b) (hnf:fs.length=0) (hnv:vs.length=0) (hpa:ps.all formT=true):FormR (.mk 10 t n ps fs vs):=by
 by_cases hn0:n=0
 ·by_cases hnp:ps.length=0
  ·exact form_10y t n ps fs vs hp hf hv hnf hnv hpa hn0 hnp
  ·exact form_10p t n ps fs vs hp hf hv hnf hnv hpa hn0 hnp
 ·exact form_10n t n ps fs vs hp hf hv hnf hnv hpa hn0
theorem form_step11 (t:ByteArray) (n:Int) (ps:List Ty) (fs:FsT) (vs:VsT) (hp:∀ p∈ps,FormR p) (hf:∀ f∈fs,FormR f.2.2) (hv:∀ v∈vs,∀ b∈v.2,FormR b) (hnf:fs.length=0) (hnv:vs.length=0) (hpa:ps.all formT=true):FormR (.mk 11 t n ps fs vs):=by
 by_cases ht0:t.toList=[]
 ·by_cases hn0:n=0
  ·by_cases hnp:ps.length=1
   ·exact form_Ry 11 (by omega) t n ps fs vs hp hf hv hnf hnv hpa ht0 hn0 hnp
   ·exact form_Rp 11 (by omega) t n ps fs vs hp hf hv hnf hnv hpa ht0 hn0 hnp
  ·exact form_Rn 11 (by omega) t n ps fs vs hp hf hv hnf hnv hpa ht0 hn0
 ·obtain⟨a0,l0,h⟩:=List.exists_cons_of_ne_nil ht0
  exact form_Rt 11 (by omega) t n ps fs vs hp hf hv hnf hnv hpa a0 l0 h
theorem form_step12 (t:ByteArray) (n:Int) (ps:List Ty) (fs:FsT) (vs:VsT) (hp:∀ p∈ps,FormR p) (hf:∀ f∈fs,FormR f.2.2) (hv:∀ v∈vs,∀ b∈v.2,FormR b) (hnf:fs.length=0) (hnv:vs.length=0) (hpa:ps.all formT=true):FormR (.mk 12 t n ps fs vs):=by
 by_cases ht0:t.toList=[]
 ·by_cases hn0:n=0
  ·exact form_12y t n ps fs vs hp hf hv hnf hnv hpa ht0 hn0
  ·exact form_12n t n ps fs vs hp hf hv hnf hnv hpa ht0 hn0
 ·obtain⟨a0,l0,h⟩:=List.exists_cons_of_ne_nil ht0
  exact form_12t t n ps fs vs hp hf hv hnf hnv hpa a0 l0 h
theorem form_step13 (t:ByteArray) (n:Int) (ps:List Ty) (fs:FsT) (vs:VsT) (hp:∀ p∈ps,FormR p) (hf:∀ f∈fs,FormR f.2.2) (hv:∀ v∈vs,∀ b∈v.2,FormR b) (hnf:fs.length=0) (hpa:ps.all formT=true):FormR (.mk 13 t n ps fs vs):=by
 by_cases ht0:t.toList=[]
 ·by_cases hn0:n=0
  ·by_cases hnp:1≤ps.length
   ·cases hq:varsB (varsT vs formT) with
    | false=>exact form_13bf t n ps fs vs hp hf hv hnf hpa ht0 hn0 hnp hq
    | true=>exact form_13bt t n ps fs vs hp hf hv hnf hpa ht0 hn0 hnp hq
   ·exact form_13p t n ps fs vs hp hf hv hnf hpa ht0 hn0 hnp
  ·exact form_13n t n ps fs vs hp hf hv hnf hpa ht0 hn0
 ·obtain⟨a0,l0,h⟩:=List.exists_cons_of_ne_nil ht0
  exact form_13t t n ps fs vs hp hf hv hnf hpa a0 l0 h
theorem form_step14 (t:ByteArray) (n:Int) (ps:List Ty) (fs:FsT) (vs:VsT) (hp:∀ p∈ps,FormR p) (hf:∀ f∈fs,FormR f.2.2) (hv:∀ v∈vs,∀ b∈v.2,FormR b) (hnv:vs.length=0) (hpa:ps.all formT=true):FormR (.mk 14 t n ps fs vs):=by
 by_cases ht0:t.toList=[]
 ·by_cases hn0:n=0
  ·by_cases hnp:ps.length=0
   ·cases hq:fieldsB (fieldsT fs formT) with
    | false=>exact form_14bf t n ps fs vs hp hf hv hnv hpa ht0 hn0 hnp hq
    | true=>exact form_14bt t n ps fs vs hp hf hv hnv hpa ht0 hn0 hnp hq
   ·exact form_14p t n ps fs vs hp hf hv hnv hpa ht0 hn0 hnp
  ·exact form_14n t n ps fs vs hp hf hv hnv hpa ht0 hn0
 ·obtain⟨a0,l0,h⟩:=List.exists_cons_of_ne_nil ht0
  exact form_14t t n ps fs vs hp hf hv hnv hpa a0 l0 h
theorem form_step16 (t:ByteArray) (n:Int) (ps:List Ty) (fs:FsT) (vs:VsT) (hp:∀ p∈ps,FormR p) (hf:∀ f∈fs,FormR f.2.2) (hv:∀ v∈vs,∀ b∈v.2,FormR b) (hnf:fs.length=0) (hnv:vs.length=0) (hpa:ps.all formT=true):FormR (.mk 16 t n ps fs vs):=by
 cases hnm:nameT t with
 | false=>exact form_Mm 16 (by omega) t n ps fs vs hp hf hv hnf hnv hpa hnm
 | true=>
  by_cases hn0:n=0
  ·by_cases hnp:ps.length=0
   ·exact form_My 16 (by omega) t n ps fs vs hp hf hv hnf hnv hpa hnm hn0 hnp
   ·exact form_Mp 16 (by omega) t n ps fs vs hp hf hv hnf hnv hpa hnm hn0 hnp
  ·exact form_Mn 16 (by omega) t n ps fs vs hp hf hv hnf hnv hpa hnm hn0
theorem form_step17 (t:ByteArray) (n:Int) (ps:List Ty) (fs:FsT) (vs:VsT) (hp:∀ p∈ps,FormR p) (hf:∀ f∈fs,FormR f.2.2) (hv:∀ v∈vs,∀ b∈v.2,FormR b) (hnf:fs.length=0) (hnv:vs.length=0) (hpa:ps.all formT=true):FormR (.mk 17 t n ps fs vs):=by
 cases hnm:nameT t with
 | false=>exact form_17m t n ps fs vs hp hf hv hnf hnv hpa hnm
 | true=>
  by_cases hn0:n=0
  ·exact form_17y t n ps fs vs hp hf hv hnf hnv hpa hnm hn0
  ·exact form_17n t n ps fs vs hp hf hv hnf hnv hpa hnm hn0
theorem form_step18 (t:ByteArray) (n:Int) (ps:List Ty) (fs:FsT) (vs:VsT) (hp:∀ p∈ps,FormR p) (hf:∀ f∈fs,FormR f.2.2) (hv:∀ v∈vs,∀ b∈v.2,FormR b) (hnf:fs.length=0) (hnv:vs.length=0) (hpa:ps.all formT=true):FormR (.mk 18 t n ps fs vs):=by
 by_cases ht0:t.toList=[]
 ·by_cases hn0:n=0
  ·by_cases hnp:ps.length=1
   ·exact form_Ry 18 (by omega) t n ps fs vs hp hf hv hnf hnv hpa ht0 hn0 hnp
   ·exact form_Rp 18 (by omega) t n ps fs vs hp hf hv hnf hnv hpa ht0 hn0 hnp
  ·exact form_Rn 18 (by omega) t n ps fs vs hp hf hv hnf hnv hpa ht0 hn0
 ·obtain⟨a0,l0,h⟩:=List.exists_cons_of_ne_nil ht0
  exact form_Rt 18 (by omega) t n ps fs vs hp hf hv hnf hnv hpa a0 l0 h
theorem form_step19 (t:ByteArray) (n:Int) (ps:List Ty) (fs:FsT) (vs:VsT) (hp:∀ p∈ps,FormR p) (hf:∀ f∈fs,FormR f.2.2) (hv:∀ v∈vs,∀ b∈v.2,FormR b) (hnf:fs.length=0) (hnv:vs.length=0) (hpa:ps.all formT=true):FormR (.mk 19 t n ps fs vs):=by
 by_cases ht0:t.toList=[]
 ·by_cases hn0:n=0
  ·by_cases hnp:ps.length=2
   ·exact form_19y t n ps fs vs hp hf hv hnf hnv hpa ht0 hn0 hnp
   ·exact form_19p t n ps fs vs hp hf hv hnf hnv hpa ht0 hn0 hnp
  ·exact form_19n t n ps fs vs hp hf hv hnf hnv hpa ht0 hn0
 ·obtain⟨a0,l0,h⟩:=List.exists_cons_of_ne_nil ht0
  exact form_19t t n ps fs vs hp hf hv hnf hnv hpa a0 l0 h
theorem form_step20 (t:ByteArray) (n:Int) (ps:List Ty) (fs:FsT) (vs:VsT) (hp:∀ p∈ps,FormR p) (hf:∀ f∈fs,FormR f.2.2) (hv:∀ v∈vs,∀ b∈v.2,FormR b) (hnf:fs.length=0) (hnv:vs.length=0) (hpa:ps.all formT=true):FormR (.mk 20 t n ps fs vs):=by
 cases hnm:nameT t with
 | false=>exact form_20m t n ps fs vs hp hf hv hnf hnv hpa hnm
 | true=>
  by_cases hn0:0≤n
  ·by_cases hn3:n≤3
   ·by_cases hnp:ps.length=2
    ·exact form_20y t n ps fs vs hp hf hv hnf hnv hpa hnm hn0 hn3 hnp
    ·exact form_20p t n ps fs vs hp hf hv hnf hnv hpa hnm hn0 hn3 hnp
   ·exact form_20o t n ps fs vs hp hf hv hnf hnv hpa hnm hn0 hn3
  ·exact form_20n t n ps fs vs hp hf hv hnf hnv hpa hnm hn0
theorem form_step21 (t:ByteArray) (n:Int) (ps:List Ty) (fs:FsT) (vs:VsT) (hp:∀ p∈ps,FormR p) (hf:∀ f∈fs,FormR f.2.2) (hv:∀ v∈vs,∀ b∈v.2,FormR b) (hnf:fs.length=0) (hnv:vs.length=0) (hpa:ps.all formT=true):FormR (.mk 21 t n ps fs vs):=by
 by_cases hnp:ps.length=4
 ·by_cases hn0:n=0
  ·by_cases ht0:t.toList=[]
   ·exact form_21a t n ps fs vs hp hf hv hnf hnv hpa hnp hn0 ht0
   ·obtain⟨a0,l0,h⟩:=List.exists_cons_of_ne_nil ht0
    exact form_21b t n ps fs vs hp hf hv hnf hnv hpa hnp hn0 a0 l0 h
  ·by_cases hn1:n=1
   ·cases hnm:nameT t with
    | false=>exact form_21mf t n ps fs vs hp hf hv hnf hnv hpa hnp hn0 hn1 hnm
    | true=>exact form_21mt t n ps fs vs hp hf hv hnf hnv hpa hnp hn0 hn1 hnm
   ·exact form_21c t n ps fs vs hp hf hv hnf hnv hpa hnp hn0 hn1
 ·exact form_21p t n ps fs vs hp hf hv hnf hnv hpa hnp
theorem form_step22 (t:ByteArray) (n:Int) (ps:List Ty) (fs:FsT) (vs:VsT) (hp:∀ p∈ps,FormR p) (hf:∀ f∈fs,FormR f.2.2) (hv:∀ v∈vs,∀ b∈v.2,FormR b) (hnf:fs.length=0) (hnv:vs.length=0) (hpa:ps.all formT=true):FormR (.mk 22 t n ps fs vs):=by
 cases hnm:nameT t with
 | false=>exact form_Mm 22 (by omega) t n ps fs vs hp hf hv hnf hnv hpa hnm
 | true=>
  by_cases hn0:n=0
  ·by_cases hnp:ps.length=0
   ·exact form_My 22 (by omega) t n ps fs vs hp hf hv hnf hnv hpa hnm hn0 hnp
   ·exact form_Mp 22 (by omega) t n ps fs vs hp hf hv hnf hnv hpa hnm hn0 hnp
  ·exact form_Mn 22 (by omega) t n ps fs vs hp hf hv hnf hnv hpa hnm hn0
theorem form_step23 (t:ByteArray) (n:Int) (ps:List Ty) (fs:FsT) (vs:VsT) (hp:∀ p∈ps,FormR p) (hf:∀ f∈fs,FormR f.2.2) (hv:∀ v∈vs,∀ b∈v.2,FormR b) (hnf:fs.length=0) (hnv:vs.length=0) (hpa:ps.all formT=true):FormR (.mk 23 t n ps fs vs):=by
 by_cases ht0:t.toList=[]
 ·by_cases hn0:n=0
  ·by_cases hnp:2≤ps.length
   ·cases hq:overT ps with
    | false=>exact form_23bf t n ps fs vs hp hf hv hnf hnv hpa ht0 hn0 hnp hq
    | true=>exact form_23bt t n ps fs vs hp hf hv hnf hnv hpa ht0 hn0 hnp hq
   ·exact form_23p t n ps fs vs hp hf hv hnf hnv hpa ht0 hn0 hnp
  ·exact form_23n t n ps fs vs hp hf hv hnf hnv hpa ht0 hn0
 ·obtain⟨a0,l0,h⟩:=List.exists_cons_of_ne_nil ht0
  exact form_23t t n ps fs vs hp hf hv hnf hnv hpa a0 l0 h
theorem formr_step (k:Int) (t:ByteArray) (n:Int) (ps:List Ty) (fs:FsT) (vs:VsT) (hp:∀ p∈ps,FormR p) (hf:∀ f∈fs,FormR f.2.2) (hv:∀ v∈vs,∀ b∈v.2,FormR b):FormR (.mk k t n ps fs vs):=by
 by_cases h14:k=14
 ·subst h14
  by_cases hnv:vs.length=0
  ·cases hpa:ps.all formT with
   | false=>exact form_pa14 t n ps fs vs hp hf hv hnv hpa
   | true=>exact form_step14 t n ps fs vs hp hf hv hnv hpa
  ·exact form_nv14 t n ps fs vs hp hf hv (by omega)
 by_cases hnf:fs.length=0
 ·by_cases h13:k=13
  ·subst h13
   cases hpa:ps.all formT with
   | false=>exact form_pa13 t n ps fs vs hp hf hv hnf hpa
   | true=>exact form_step13 t n ps fs vs hp hf hv hnf hpa
  by_cases hnv:vs.length=0
  ·cases hpa:ps.all formT with
   | false=>exact form_pa k t n ps fs vs hp hf hv h14 hnf h13 hnv hpa
   | true=>
    by_cases hL:k=1∨k=2∨k=3∨k=4∨k=5∨k=6∨k=7∨k=8
    ·exact form_stepL k hL t n ps fs vs hp hf hv hnf hnv hpa
    by_cases h9:k=9
    ·subst h9;exact form_step9 t n ps fs vs hp hf hv hnf hnv hpa
    by_cases h10:k=10
    ·subst h10;exact form_step10 t n ps fs vs hp hf hv hnf hnv hpa
    by_cases h11:k=11
    ·subst h11;exact form_step11 t n ps fs vs hp hf hv hnf hnv hpa
    by_cases h12:k=12
    ·subst h12;exact form_step12 t n ps fs vs hp hf hv hnf hnv hpa
    by_cases h15:k=15
    ·subst h15;exact form_step15 t n ps fs vs hp hf hv hnf hnv hpa
    by_cases h16:k=16
    ·subst h16;exact form_step16 t n ps fs vs hp hf hv hnf hnv hpa
    by_cases h17:k=17
    ·subst h17;exact form_step17 t n ps fs vs hp hf hv hnf hnv hpa
    by_cases h18:k=18
    ·subst h18;exact form_step18 t n ps fs vs hp hf hv hnf hnv hpa
    by_cases h19:k=19
    ·subst h19;exact form_step19 t n ps fs vs hp hf hv hnf hnv hpa
    by_cases h20:k=20
    ·subst h20;exact form_step20 t n ps fs vs hp hf hv hnf hnv hpa
    by_cases h21:k=21
    ·subst h21;exact form_step21 t n ps fs vs hp hf hv hnf hnv hpa
    by_cases h22:k=22
    ·subst h22;exact form_step22 t n ps fs vs hp hf hv hnf hnv hpa
    by_cases h23:k=23
    ·subst h23;exact form_step23 t n ps fs vs hp hf hv hnf hnv hpa
    exact form_no k t n ps fs vs hp hf hv (by omega) (by omega) (by omega) (by omega) (by omega) (by omega) (by omega) (by omega) h9 h10 h11 h12 h13 h14 h15 h16 h17 h18 h19 h20 h21 h22 h23 hnf hnv hpa
  ·exact form_nv k t n ps fs vs hp hf hv h14 hnf h13 (by omega)
 ·exact form_nf k t n ps fs vs hp hf hv h14 (by omega)
theorem form_ref (t:Ty):FormR t:=Ty.ind (C:=FormR) (fun k t n ps fs vs hp hf hv=>formr_step k t n ps fs vs hp hf hv) t
def stdT (l:List Ty):Ty:=if l=[] then tyK 2 else unionT l
theorem stands_any {K:Nat→Prop} {w:World} {l:List Ty} {A:Option Addr} {c:Nat} (s:ByteArray) (hL:ListT K w l A c) (hlo:∀ b,K b→b<w.heap.size) (hn:(flatU l).length≤1099511627776) :
  Calls Tryz.prog 63 #[.agg #[.string s,.slice A l.length c]] w fun e w'=>∃ rs,e=.returned (.agg rs.toArray)∧RepT (fun b=>K b∨w.heap.size≤b) w' (stdT l) rs∧Below w.heap.size w w':=by
 obtain⟨w1,hw1⟩:∃ x,x=(w.alloc (.cells #[.string s,.slice A l.length c] 105)).alloc (.cells #[.int .i64 0,.string ⟨#[]⟩,.int .i64 0,.slice none 0 0,.slice none 0 0,.slice none 0 0] 26):=⟨_,rfl⟩
 have hb1:Below w.heap.size w w1:=by rw[hw1];exact ((Below.refl _ _).alloc (Nat.le_refl _) _).alloc (by simp) _
 have hs1:w1.heap.size=w.heap.size+2:=by rw[hw1];simp
 have hx0:w1.heap[w.heap.size]?=some (.cells #[.string s,.slice A l.length c] 105 (0,0)):=by rw[hw1,Below.heap_alloc _ _ _ (by simp)];exact heap_alloc_new w _
 have hx1:w1.heap[w.heap.size+1]?=some (.cells #[.int .i64 0,.string ⟨#[]⟩,.int .i64 0,.slice none 0 0,.slice none 0 0,.slice none 0 0] 26 (0,0)):=by
  rw[hw1]
  have h:=heap_alloc_new (w.alloc (.cells #[.string s,.slice A l.length c] 105)) (.cells #[.int .i64 0,.string ⟨#[]⟩,.int .i64 0,.slice none 0 0,.slice none 0 0,.slice none 0 0] 26)
  rw[World.size_alloc] at h
  exact h
 have KU:=Hd (union_p K w1 l A c (hL.later hb1) hn (fun b hb=>Nat.lt_of_lt_of_le (hlo b hb) hb1.size))
 have HLO:=Hd hlo
 have HB1:=Hd hb1
 have HS1:=Hd hs1
 have HX1:=Hd hx1
 have HW1:=Hd hw1
 obtain⟨g,hg⟩:∃ g,g=w.heap.size+1:=⟨_,rfl⟩
 have HG:=Hd hg
 have x1:w1.cell? ⟨w.heap.size,1,none⟩=some (.slice A l.length c):=Ch hx0 1
 clear hL hlo hb1 hs1 hx0 hx1 hw1 hg hn
 by_cases hl:l=[]
 ·have hst:stdT l=tyK 2:=if_pos hl
  rw[hst]
  subst hl
  simp only[List.length_nil] at *
  go_enter Tryz.func63,Tryz.ntmps63
  go_upto_region 1 with fail
  rw[←HW1.out,←HG.out]
  clear HW1
  go_upto_region 2 with fail
  have rb:=HX1.out
  rw[←HG.out] at rb
  clear x1
  obtain⟨q0,q1,q2,q3,q4,q5,z0,z1,z2,z3,z4,z5⟩:=qz6 rb
  have RBX:=Hd rb
  clear rb
  go_wp2_with fail
  have rs:=six_set RBX.out (.int .i64 2) (.string ⟨#[]⟩) (.int .i64 0) (.slice none 0 0) (.slice none 0 0) (.slice none 0 0)
  obtain⟨r0,r1,r2,r3,r4,r5⟩:=cz6 rs
  clear q0 q1 q2 q3 q4 q5 z0 z1 z2 z3 z4 z5 RBX rs
  refine bodyPost_ret (v:=.agg #[.int .i64 2,.string ⟨#[]⟩,.int .i64 0,.slice none 0 0,.slice none 0 0,.slice none 0 0]) (by simp[results,Tryz.results63,go_sem,r0,r1,r2,r3,r4,r5]) rfl ?_
  clear r0 r1 r2 r3 r4 r5
  exact⟨_,rfl,rep_k _ _ 2,set_six_below HB1.out (by have:=HG.out;omega) _ _ _ _ _ _⟩
 ·have hst:stdT l=unionT l:=if_neg hl
  rw[hst]
  have hpos:0<l.length:=List.length_pos_iff.2 hl
  have b0:(((l.length:Nat):Int) == 0)=false:=beq_eq_false_iff_ne.2 (by omega)
  have d0:decide (((l.length:Nat):Int)=0)=false:=decide_eq_false (by omega)
  have d1:decide (l.length=0)=false:=decide_eq_false (by omega)
  generalize hu:unionT l=u at KU ⊢
  obtain⟨k2,s2,n2,ps2,fs2,vs2⟩:=u
  clear hst hu hpos hl
  go_enter Tryz.func63,Tryz.ntmps63
  go_upto_region 1 with fail
  rw[←HW1.out,←HG.out]
  clear HW1
  go_wp2_with fail
  refine KU.out.mono ?_
  rintro e w4 ⟨rs,rfl,hr4,hb4⟩
  have HBE:=Hd (HB1.out.trans (hb4.mono HB1.out.size))
  have rb:=(hb4.block (w.heap.size+1) (by have:=HS1.out;omega)).trans HX1.out
  rw[←HG.out] at rb
  have hr':RepT (fun b=>K b∨g<b) w4 (.mk k2 s2 n2 ps2 fs2 vs2) rs:=hr4.weak fun b h=>by
   rcases h with h | h
   ·exact .inl h
   ·exact .inr (by have:=HS1.out;have:=HG.out;omega)
  clear hr4 hb4 KU x1
  obtain⟨Aq,cq,Ag,cg,Ah,ch,rfl,-⟩:=hr'.inv
  have HR4:=Hd hr'
  simp only[cells6T] at HR4 ⊢
  clear hr'
  obtain⟨q0,q1,q2,q3,q4,q5,z0,z1,z2,z3,z4,z5⟩:=qz6 rb
  have RBX:=Hd rb
  clear rb
  go_wp2_with fail
  have rs:=six_set RBX.out (.int .i64 k2) (.string s2) (.int .i64 n2) (.slice Aq ps2.length cq) (.slice Ag fs2.length cg) (.slice Ah vs2.length ch)
  obtain⟨r0,r1,r2,r3,r4,r5⟩:=cz6 rs
  clear q0 q1 q2 q3 q4 q5 z0 z1 z2 z3 z4 z5 RBX rs
  refine bodyPost_ret (v:=.agg #[.int .i64 k2,.string s2,.int .i64 n2,.slice Aq ps2.length cq,.slice Ag fs2.length cg,.slice Ah vs2.length ch]) (by simp[results,Tryz.results63,go_sem,r0,r1,r2,r3,r4,r5]) rfl ?_
  clear r0 r1 r2 r3 r4 r5
  exact⟨[.int .i64 k2,.string s2,.int .i64 n2,.slice Aq ps2.length cq,.slice Ag fs2.length cg,.slice Ah vs2.length ch],rfl,ret_box HR4.out (fun b h=>by have:=HLO.out b h;have:=HG.out;omega) (by have:=HG.out;omega) _ _ _ _ _ _,set_six_below HBE.out (by have:=HG.out;omega) _ _ _ _ _ _⟩
theorem infoFo:(Tryz.prog.info? 31).map (fun i=>(i.zero,i.size,i.bytes))=some (some (.agg #[.string ⟨#[]⟩,.int .i64 0,.string ⟨#[]⟩,.int .i64 0,.slice none 0 0,.slice none 0 0,.slice none 0 0]),7,120):=by kernel_rfl
def CgP (w:World) (l:List ByteArray) (G:List (ByteArray×Ty)):Ending→World→Prop:=fun e w'=>Below w.heap.size w w'∧((l=[]∧e=.returned (.tuple #[.slice none 0 0,.int .i64 0]))∨∃ s g c rs,l=[s]∧e=.returned (.tuple #[.slice (some ⟨g,0,none⟩) 1 c,.int .i64 0])∧(∀ j u,(Value.string s :: rs)[j]?=some u→w'.cell? ⟨g,j,none⟩=some u)∧RepT (fun b=>b<w'.heap.size) w' (stdT (gatN s G)) rs)
theorem found_row {w4 W5 w6:World} {v:Value} {T:TypeId} {vs:List Value} {z:Nat} (_:vs.length=z) (_:0<z) (h:w6.ownsRow w4.heap.size T z v (0+1) ([]++vs)) (hb:Below w4.heap.size w4 W5) (hg:W5.grownBy w6 none):∃ g c,v=.slice (some ⟨g,0,none⟩) 1 c∧Below w4.heap.size w4 w6∧∀ j u,vs[j]?=some u→w6.cell? ⟨g,j,none⟩=some u:=by
 rcases h.2 with ⟨_,h2⟩ | ⟨g,cap,cur,hv,hge,hh,hle,_,hsz,htk⟩
 ·simp at h2
 ·refine⟨g,cap,hv,hb.grown hg hb.size (fun k hk=>by cases hk),fun j u hj=>?_⟩
  rw[List.nil_append] at htk
  rw[←htk,List.getElem?_take] at hj
  split at hj
  ·rw[Ch hh];simpa using hj
  ·cases hj
theorem formed_form {t:Ty} (h:formedT t=true):formT t=true:=by unfold formedT at h;rw[Bool.and_eq_true] at h;exact h.2
theorem cgather_few {K K':Nat→Prop} {w:World} {t p:Ty} {cs ds:List Value} (hr:RepT K w t cs) (hp:RepT K' w p ds) (hlo:∀ b,K b→b<w.heap.size) (hlo':∀ b,K' b→b<w.heap.size) (hft:formedT t=true) (hfp:formedT p=true) (hold:HoldP p t) (hcnt:cntT p+cntT t≤1000000) (hlen:(gathT p t).length≤1000000000) (hn:(namesI p).length≤1) (hnm:∀ x∈namesI p,x.size≤maxLen) (hflt:∀ s,(flatU (gatN s (gathT p t))).length≤1099511627776) :
  Calls Tryz.prog 32 #[.agg cs.toArray,.agg ds.toArray] w (CgP w (namesI p) (gathT p t)):=by
 have kft:=Formed_any hr
 have kgf:=fun (wx:World) (hx:Below w.heap.size w wx)=>gather_few (hr.later hx) (hp.later hx) (fun b hb=>Nat.lt_of_lt_of_le (hlo b hb) hx.size) (fun b hb=>Nat.lt_of_lt_of_le (hlo' b hb) hx.size) (formed_form hft) (formed_form hfp) hold hcnt hlen hn hnm
 have kf1:=fun (wx:World) (hx:Below w.heap.size w wx)=>Formed_any (hr.later hx)
 have kf2:=fun (wx:World) (hx:Below w.heap.size w wx)=>Formed_any (hp.later hx)
 rw[hft] at kf1
 rw[hfp] at kf2
 obtain⟨k,s,n,ps,fs,vs⟩:=t
 obtain⟨k2,s2,n2,ps2,fs2,vs2⟩:=p
 obtain⟨A,c,B,d,C,e0,rfl,-⟩:=hr.inv
 obtain⟨A2,c2,B2,d2,C2,e2,rfl,-⟩:=hp.inv
 simp only[cells6T] at hr hp kgf kf1 kf2 ⊢
 obtain⟨wa,hwa⟩:∃ x,x=w.alloc (.cells #[.int .i64 k,.string s,.int .i64 n,.slice A ps.length c,.slice B fs.length d,.slice C vs.length e0] 26):=⟨_,rfl⟩
 obtain⟨w0,hw0⟩:∃ x,x=wa.alloc (.cells #[.int .i64 k2,.string s2,.int .i64 n2,.slice A2 ps2.length c2,.slice B2 fs2.length d2,.slice C2 vs2.length e2] 26):=⟨_,rfl⟩
 have hba:Below w.heap.size w wa:=by rw[hwa];exact (Below.refl _ _).alloc (Nat.le_refl _) _
 have hb0:Below wa.heap.size wa w0:=by rw[hw0];exact (Below.refl _ _).alloc (Nat.le_refl _) _
 have hsa:wa.heap.size=w.heap.size+1:=by rw[hwa];simp
 have hy0:wa.heap[w.heap.size]?=some (.cells #[.int .i64 k,.string s,.int .i64 n,.slice A ps.length c,.slice B fs.length d,.slice C vs.length e0] 26 (0,0)):=by rw[hwa];exact heap_alloc_new w _
 have hx0:w0.heap[w.heap.size+1]?=some (.cells #[.int .i64 k2,.string s2,.int .i64 n2,.slice A2 ps2.length c2,.slice B2 fs2.length d2,.slice C2 vs2.length e2] 26 (0,0)):=by
  have h:=heap_alloc_new wa (.cells #[.int .i64 k2,.string s2,.int .i64 n2,.slice A2 ps2.length c2,.slice B2 fs2.length d2,.slice C2 vs2.length e2] 26)
  rw[hsa] at h
  rw[hw0]
  exact h
 have HBX:Hid (∀ wx,Below w0.heap.size w0 wx→(wx.cell? ⟨w.heap.size,0,none⟩=some (.int .i64 k)∧wx.cell? ⟨w.heap.size,1,none⟩=some (.string s)∧wx.cell? ⟨w.heap.size,2,none⟩=some (.int .i64 n)∧wx.cell? ⟨w.heap.size,3,none⟩=some (.slice A ps.length c)∧wx.cell? ⟨w.heap.size,4,none⟩=some (.slice B fs.length d)∧wx.cell? ⟨w.heap.size,5,none⟩=some (.slice C vs.length e0))∧(wx.cell? ⟨w.heap.size+1,0,none⟩=some (.int .i64 k2)∧wx.cell? ⟨w.heap.size+1,1,none⟩=some (.string s2)∧wx.cell? ⟨w.heap.size+1,2,none⟩=some (.int .i64 n2)∧wx.cell? ⟨w.heap.size+1,3,none⟩=some (.slice A2 ps2.length c2)∧wx.cell? ⟨w.heap.size+1,4,none⟩=some (.slice B2 fs2.length d2)∧wx.cell? ⟨w.heap.size+1,5,none⟩=some (.slice C2 vs2.length e2))):=Hd fun wx hx=>by
  have h1:=box_up (hb0.trans (hx.mono hb0.size)) (Array.getElem?_eq_some_iff.1 hy0).1 hy0
  have h2:=box_up hx (Array.getElem?_eq_some_iff.1 hx0).1 hx0
  exact⟨⟨Ch h1 0,Ch h1 1,Ch h1 2,Ch h1 3,Ch h1 4,Ch h1 5⟩,Ch h2 0,Ch h2 1,Ch h2 2,Ch h2 3,Ch h2 4,Ch h2 5⟩
 have HB0:=Hd (hba.trans (hb0.mono hba.size))
 have HKG:=Hd kgf
 have HF1:=Hd kf1
 have HF2:=Hd kf2
 have HWA:=Hd hwa
 have HW0:=Hd hw0
 have HFLT:=Hd hflt
 clear kft kgf kf1 kf2 hr hp hlo hlo' hft hfp hold hcnt hlen hnm hba hb0 hsa hy0 hx0 hwa hw0 hflt
 generalize gathT (.mk k2 s2 n2 ps2 fs2 vs2) (.mk k s n ps fs vs)=G at HKG HFLT ⊢
 generalize namesI (.mk k2 s2 n2 ps2 fs2 vs2)=l at hn HKG ⊢
 go_enter Tryz.func32,Tryz.ntmps32
 go_upto_region 1 with fail
 rw[←HWA.out,←HW0.out]
 obtain⟨⟨x0,x1,x2,x3,x4,x5⟩,⟨y0,y1,y2,y3,y4,y5⟩⟩:=HBX.out _ (Below.refl _ _)
 go_wp2_with fail
 refine (HF1.out _ HB0.out).mono ?_
 rintro e wb ⟨rfl,hbb⟩
 have HBb:=Hd hbb
 have HB1:=Hd (HB0.out.trans (hbb.mono HB0.out.size))
 clear hbb x0 x1 x2 x3 x4 x5 y0 y1 y2 y3 y4 y5
 obtain⟨⟨x0,x1,x2,x3,x4,x5⟩,⟨y0,y1,y2,y3,y4,y5⟩⟩:=HBX.out _ HBb.out
 go_wp2_with fail
 refine (HF2.out _ HB1.out).mono ?_
 rintro e wc ⟨rfl,hbb⟩
 have HBc:=Hd (HBb.out.trans (hbb.mono HBb.out.size))
 have HB2:=Hd (HB1.out.trans (hbb.mono HB1.out.size))
 clear hbb x0 x1 x2 x3 x4 x5 y0 y1 y2 y3 y4 y5
 obtain⟨⟨x0,x1,x2,x3,x4,x5⟩,⟨y0,y1,y2,y3,y4,y5⟩⟩:=HBX.out _ HBc.out
 go_wp2_with fail
 refine (HKG.out _ HB2.out).mono ?_
 rintro e w4 ⟨hb4,hres⟩
 have HB4:=Hd (HB2.out.trans (hb4.mono HB2.out.size))
 clear hb4 x0 x1 x2 x3 x4 x5 y0 y1 y2 y3 y4 y5
 rcases hres with ⟨rfl,rfl⟩ | ⟨nm,g,cg,Ar,cr,rfl,rfl,h0,h1,hlist⟩
 ·go_wp2_with fail
  go_loopw [21,6] (fun v l wr=>v=.int .i64 0∧l=.slice none 0 0∧wr=w4) (fun _ _ _=>0)
  case atStart=>exact⟨rfl,rfl,rfl⟩
  case round=>
   obtain⟨rfl,rfl,rfl⟩:=hrel
   go_wp2_with fail
   refine bodyPost_ret (v:=.tuple #[.slice none 0 0,.int .i64 0]) (by simp[results,Tryz.results32,go_sem]) rfl ?_
   exact⟨HB4.out,.inl ⟨rfl,rfl⟩⟩
 ·have hgl:=hlist
  have HH0:=Hd h0
  have HH1:=Hd h1
  have HLI:=Hd hlist
  clear h0 h1 hlist hgl hn
  go_wp2_with fail
  go_loopw [21,6] (fun v l wr=>(v=.int .i64 0∧l=.slice none 0 0∧wr=w4)∨(v=.int .i64 1∧∃ g c rs,l=.slice (some ⟨g,0,none⟩) 1 c∧Below w4.heap.size w4 wr∧(∀ j u,(Value.string nm :: rs)[j]?=some u→wr.cell? ⟨g,j,none⟩=some u)∧RepT (fun b=>b<wr.heap.size) wr (stdT (gatN nm G)) rs)) (fun v _ _=>1 - (intOf v).toNat)
  case atStart=>exact .inl ⟨rfl,rfl,rfl⟩
  case round=>
   rcases hrel with ⟨rfl,rfl,rfl⟩ | ⟨rfl,gg,cc,rs,rfl,hb,hc,hrr⟩
   ·have n0:=HH0.out
    have n1:=HH1.out
    obtain⟨i0,hi0,hz0,hz1,hz2⟩:=partsT infoFo
    obtain⟨w5,hw5⟩:∃ x,x=wr.alloc (.cells #[.string nm,.slice Ar (gatN nm G).length cr] 105):=⟨_,rfl⟩
    have hb5:Below wr.heap.size wr w5:=by rw[hw5];exact (Below.refl _ _).alloc (Nat.le_refl _) _
    have hx5:w5.heap[wr.heap.size]?=some (.cells #[.string nm,.slice Ar (gatN nm G).length cr] 105 (0,0)):=by rw[hw5];exact heap_alloc_new wr _
    have HBW:=Hd hb5
    have HB5:=Hd (Below.refl w5.heap.size w5)
    have HX0:Hid (w5.cell? ⟨wr.heap.size,0,none⟩=some (.string nm)):=Hd (Ch hx5 0)
    have HX1:Hid (w5.cell? ⟨wr.heap.size,1,none⟩=some (.slice Ar (gatN nm G).length cr)):=Hd (Ch hx5 1)
    have HBB:Hid (∀ wx,Below w5.heap.size w5 wx→Below w5.heap.size w5 wx):=Hd fun _ h=>h
    have HST:=Hd fun (wx:World) (hx:Below w5.heap.size w5 wx)=>stands_any nm ((HLI.out.later (hb5.trans (hx.mono hb5.size)))) (fun b hb=>Nat.lt_of_lt_of_le hb (Nat.le_trans hb5.size hx.size)) (HFLT.out nm)
    have HW5:=Hd hw5
    clear hb5 hx5 hw5
    go_upto_region 7 with fail
    rw[←HW5.out]
    clear n0 n1 HW5
    refine wp_region_held_drew (S:=(fun w'=>w'.cell? ⟨wr.heap.size,0,none⟩=some (.string nm)∧w'.cell? ⟨wr.heap.size,1,none⟩=some (.slice Ar (gatN nm G).length cr))) (by kernel_rfl) ⟨HX0.out,HX1.out⟩ (fun hHeld=>?_)
    refine Plan.start [0,1,2,3] ?_
    iterate 4 (refine Plan.tk (so rfl) hHeld ?_;try simp only[Act.put,pz1,pz2,pz3])
    refine Plan.done ?_
    refine wpAnyH_ready (rs:=[4]) (by kernel_rfl) (by simp) ?_
    refine AllReadyH.cons (sd (some 29) rfl) (fun Kx hK=>?_) AllReadyH.nil
    go_simp
    refine (HST.out _ HB5.out.drew).mono ?_
    rintro e w6 ⟨rs,rfl,hr6,hb6⟩
    have hq:=hr6.both
    obtain⟨k7,s7,n7,ps7,fs7,vs7,he7⟩:∃ a b c d e f,stdT (gatN nm G)=.mk a b c d e f:=by
     cases stdT (gatN nm G) with
     | mk a b c d e f=>exact⟨a,b,c,d,e,f,rfl⟩
    rw[he7] at hq
    have HE7:=Hd he7
    obtain⟨A7,c7,B7,d7,C7,e7,rfl,-⟩:=hq.inv
    simp only[cells6T] at hq ⊢
    have HB6:=Hd (HB5.out.drew.trans (hb6.mono HB5.out.drew.size))
    have HQ:=Hd hq
    clear hr6 hb6 hq he7
    go_wp2_with fail
    refine hK.out _ _ (⟨cell_stays (below_then (Below.refl _ _) (HBB.out _ HB6.out)) HX0.out,cell_stays (below_then (Below.refl _ _) (HBB.out _ HB6.out)) HX1.out⟩) (fun hHeld=>?_)
    clear hK Kx
    try simp only[Act.put,pz1,pz2,pz3]
    refine Plan.start [5] ?_
    refine Plan.tk (so rfl) hHeld ?_
    try simp only[Act.put,pz1,pz2,pz3]
    refine Plan.done ?_
    refine wpAnyH_ready (rs:=[6]) (by kernel_rfl) (by simp) ?_
    refine AllReadyH.cons (sd (some 31) rfl) (fun Kx hK=>?_) AllReadyH.nil
    go_simp
    generalize hW:w6.alloc (.cells #[.string nm,.int .i64 k7,.string s7,.int .i64 n7,.slice A7 ps7.length c7,.slice B7 fs7.length d7,.slice C7 vs7.length e7] 31)=w7
    have hb:Below w6.heap.size w6 w7:=by rw[←hW];exact (Below.refl _ _).alloc (Nat.le_refl _) _
    have rs:w7.heap[w6.heap.size]?=some (.cells #[.string nm,.int .i64 k7,.string s7,.int .i64 n7,.slice A7 ps7.length c7,.slice B7 fs7.length d7,.slice C7 vs7.length e7] 31 (0,0)):=by rw[←hW];exact heap_alloc_new w6 _
    have HB7:=Hd (HB6.out.trans (hb.mono HB6.out.size))
    have HX7:=Hd rs
    have HQ7:=Hd (HQ.out.later hb)
    have H67:=Hd hb.size
    clear hW hb rs
    refine hK.out _ _ (⟨cell_stays (below_then (Below.refl _ _) (HBB.out _ HB7.out)) HX0.out,cell_stays (below_then (Below.refl _ _) (HBB.out _ HB7.out)) HX1.out⟩) (fun hHeld=>?_)
    clear hK Kx
    try simp only[Act.put,pz1,pz2,pz3]
    refine wpAnyH_ready (rs:=[7]) (by kernel_rfl) (by simp) ?_
    refine AllReadyH.cons (sd (some 32) rfl) (fun Kx hK=>?_) AllReadyH.nil
    rw[if_pos (by rfl)]
    refine wp_append_own_at _ _ 27 rfl wr.heap.size 31 i0 _ 7 120 Tryz.underlying27 hi0 hz0 hz1 hz2 (by decide) (by decide) (.slice none 0 0) 0 [] rfl ⟨rfl,.inl ⟨rfl,rfl⟩⟩ ⟨w6.heap.size,0,none⟩ 1 1 [.string nm,.int .i64 k7,.string s7,.int .i64 n7,.slice A7 ps7.length c7,.slice B7 fs7.length d7,.slice C7 vs7.length e7] rfl rfl ?_ ?_ (by decide) (by decide) (Nat.le_trans HBW.out.size HB7.out.size) ?_
    ·intro j u hj
     rw[add_zero']
     exact row_cell HX7.out hj
    ·intro u hu
     rcases List.mem_cons.1 hu with rfl | hu
     ·rfl
     ·exact one_cells HQ.out u hu
    intro v8 w8 hown hg8 _ _
    have HFIN:=Hd (found_row rfl (by simp) hown (HBW.out.trans (HB7.out.mono HBW.out.size)) hg8)
    have HB8:=Hd (HB7.out.grown hg8 HB7.out.size (fun k hk=>by cases hk))
    have h78:=(Below.refl w7.heap.size w7).grown hg8 (Nat.le_refl _) (fun k hk=>by cases hk)
    have HQ8:=Hd ((HQ7.out.later h78).weak (K':=fun b=>b<w8.heap.size) fun b hb=>Nat.lt_of_lt_of_le hb.2 (Nat.le_trans H67.out h78.size))
    clear hown hg8 h78
    refine hK.out _ _ (⟨cell_stays (below_then (Below.refl _ _) (HBB.out _ HB8.out)) HX0.out,cell_stays (below_then (Below.refl _ _) (HBB.out _ HB8.out)) HX1.out⟩) (fun hHeld=>?_)
    clear hK Kx
    try simp only[Act.put,pz1,pz2,pz3]
    refine Plan.start [8] ?_
    refine Plan.tk (so rfl) hHeld ?_
    try simp only[Act.put,pz1,pz2,pz3]
    refine Plan.done ?_
    refine wpAnyH_done (by kernel_rfl) ?_ _
    clear hHeld
    obtain⟨g8,c8,hv8,hb8,hc8⟩:=HFIN.out
    subst hv8
    have HC8:=Hd hc8
    have HBR:=Hd hb8
    have HRF:Hid (RepT (fun b=>b<w8.heap.size) w8 (stdT (gatN nm G)) [.int .i64 k7,.string s7,.int .i64 n7,.slice A7 ps7.length c7,.slice B7 fs7.length d7,.slice C7 vs7.length e7]):=Hd (by rw[HE7.out];exact HQ8.out)
    clear HFIN hb8 hc8
    go_wp2_with fail
    refine⟨.inr ⟨by first | rfl | simp,g8,c8,_,by first | rfl | simp,HBR.out,HC8.out,HRF.out⟩,?_⟩
    first | decide | simp[intOf]
   ·have HF:=Hd (And.intro hb (And.intro hc hrr))
    clear hb hc hrr
    go_wp2_with fail
    refine bodyPost_ret (v:=.tuple #[.slice (some ⟨gg,0,none⟩) 1 cc,.int .i64 0]) (by simp[results,Tryz.results32,go_sem]) rfl ?_
    exact⟨HB4.out.trans (HF.out.1.mono HB4.out.size),.inr ⟨nm,gg,cc,rs,rfl,rfl,HF.out.2.1,HF.out.2.2⟩⟩
end Go.Proofs.YtlpfpehegddcfaaGreatDoor
