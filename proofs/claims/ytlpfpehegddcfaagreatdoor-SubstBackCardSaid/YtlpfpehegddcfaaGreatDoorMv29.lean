import Derived.Test.YtlpfpehegddcfaaGreatDoorMv24
import Derived.Test.YtlpfpehegddcfaaGreatDoorMv25
import Derived.Test.YtlpfpehegddcfaaGreatDoorMv26
import Derived.Test.YtlpfpehegddcfaaGreatDoorMv28
namespace Go.Proofs.YtlpfpehegddcfaaGreatDoor
set_option maxRecDepth 100000
set_option maxHeartbeats 64000000
open Go.RowKit
theorem Qu (t:ByteArray) (n:Int) (ps:List Ty) (fs:Bp) (vs:Bm) (hp:∀ p∈ps,Ad p) (hf:∀ f∈fs,Ad f.2.2) (hv:∀ v∈vs,∀ b∈v.2,Ad b) (hnf:fs.length=0) (hnv:vs.length=0) (hpa:ps.all Ab=true):Ad (.mk 15 t n ps fs vs):=by
 by_cases ht0:t.toList=[]
 ·by_cases hn0:n=0
  ·by_cases hnp:2<=ps.length
   ·exact Y0 t n ps fs vs hp hf hv hnf hnv hpa ht0 hn0 hnp
   ·exact Yy t n ps fs vs hp hf hv hnf hnv hpa ht0 hn0 hnp
  ·exact Yx t n ps fs vs hp hf hv hnf hnv hpa ht0 hn0
 ·obtain⟨a0,l0,h⟩:=List.exists_cons_of_ne_nil ht0;exact Yz t n ps fs vs hp hf hv hnf hnv hpa a0 l0 h
theorem Sq (k:Int) (hk:k=1\/k=2\/k=3\/k=4\/k=5\/k=6\/k=7\/k=8) (t:ByteArray) (n:Int) (ps:List Ty) (fs:Bp) (vs:Bm) (hp:∀ p∈ps,Ad p) (hf:∀ f∈fs,Ad f.2.2) (hv:∀ v∈vs,∀ b∈v.2,Ad b) (hnf:fs.length=0) (hnv:vs.length=0) (hpa:ps.all Ab=true):Ad (.mk k t n ps fs vs):=by
 by_cases ht0:t.toList=[]
 ·by_cases hn0:n=0
  ·by_cases hnp:ps.length=0
   ·exact Jcl k hk t n ps fs vs hp hf hv hnf hnv hpa ht0 hn0 hnp
   ·exact Jcj k hk t n ps fs vs hp hf hv hnf hnv hpa ht0 hn0 hnp
  ·exact Jci k hk t n ps fs vs hp hf hv hnf hnv hpa ht0 hn0
 ·obtain⟨a0,l0,h⟩:=List.exists_cons_of_ne_nil ht0;exact Jck k hk t n ps fs vs hp hf hv hnf hnv hpa a0 l0 h
theorem Sp (t:ByteArray) (n:Int) (ps:List Ty) (fs:Bp) (vs:Bm) (hp:∀ p∈ps,Ad p) (hf:∀ f∈fs,Ad f.2.2) (hv:∀ v∈vs,∀ b∈v.2,Ad b) (hnf:fs.length=0) (hnv:vs.length=0) (hpa:ps.all Ab=true):Ad (.mk 9 t n ps fs vs):=by
 by_cases ht0:t.toList=[]
 ·by_cases hn0:0<=n
  ·by_cases hnp:ps.length=0
   ·exact Jch t n ps fs vs hp hf hv hnf hnv hpa ht0 hn0 hnp
   ·exact Jcf t n ps fs vs hp hf hv hnf hnv hpa ht0 hn0 hnp
  ·exact Jce t n ps fs vs hp hf hv hnf hnv hpa ht0 hn0
 ·obtain⟨a0,l0,h⟩:=List.exists_cons_of_ne_nil ht0;exact Jcg t n ps fs vs hp hf hv hnf hnv hpa a0 l0 h
theorem Qp (t:ByteArray) (n:Int) (ps:List Ty) (fs:Bp) (vs:Bm) (hp:∀ p∈ps,Ad p) (hf:∀ f∈fs,Ad f.2.2) (hv:∀ v∈vs,∀ b∈v.2,Ad b) (hnf:fs.length=0) (hnv:vs.length=0) (hpa:ps.all Ab=true):Ad (.mk 10 t n ps fs vs):=by
 by_cases hn0:n=0
 ·by_cases hnp:ps.length=0
  ·exact Yn t n ps fs vs hp hf hv hnf hnv hpa hn0 hnp
  ·exact Ym t n ps fs vs hp hf hv hnf hnv hpa hn0 hnp
 ·exact Yl t n ps fs vs hp hf hv hnf hnv hpa hn0
theorem Qq (t:ByteArray) (n:Int) (ps:List Ty) (fs:Bp) (vs:Bm) (hp:∀ p∈ps,Ad p) (hf:∀ f∈fs,Ad f.2.2) (hv:∀ v∈vs,∀ b∈v.2,Ad b) (hnf:fs.length=0) (hnv:vs.length=0) (hpa:ps.all Ab=true):Ad (.mk 11 t n ps fs vs):=by
 by_cases ht0:t.toList=[]
 ·by_cases hn0:n=0
  ·by_cases hnp:ps.length=1
   ·exact Um 11 (by omega) t n ps fs vs hp hf hv hnf hnv hpa ht0 hn0 hnp
   ·exact Uk 11 (by omega) t n ps fs vs hp hf hv hnf hnv hpa ht0 hn0 hnp
  ·exact Uj 11 (by omega) t n ps fs vs hp hf hv hnf hnv hpa ht0 hn0
 ·obtain⟨a0,l0,h⟩:=List.exists_cons_of_ne_nil ht0;exact Ul 11 (by omega) t n ps fs vs hp hf hv hnf hnv hpa a0 l0 h
theorem Qr (t:ByteArray) (n:Int) (ps:List Ty) (fs:Bp) (vs:Bm) (hp:∀ p∈ps,Ad p) (hf:∀ f∈fs,Ad f.2.2) (hv:∀ v∈vs,∀ b∈v.2,Ad b) (hnf:fs.length=0) (hnv:vs.length=0) (hpa:ps.all Ab=true):Ad (.mk 12 t n ps fs vs):=by
 by_cases ht0:t.toList=[]
 ·by_cases hn0:n=0
  ·exact Yq t n ps fs vs hp hf hv hnf hnv hpa ht0 hn0
  ·exact Yo t n ps fs vs hp hf hv hnf hnv hpa ht0 hn0
 ·obtain⟨a0,l0,h⟩:=List.exists_cons_of_ne_nil ht0;exact Yp t n ps fs vs hp hf hv hnf hnv hpa a0 l0 h
theorem Qs (t:ByteArray) (n:Int) (ps:List Ty) (fs:Bp) (vs:Bm) (hp:∀ p∈ps,Ad p) (hf:∀ f∈fs,Ad f.2.2) (hv:∀ v∈vs,∀ b∈v.2,Ad b) (hnf:fs.length=0) (hpa:ps.all Ab=true):Ad (.mk 13 t n ps fs vs):=by
 by_cases ht0:t.toList=[]
 ·by_cases hn0:n=0
  ·by_cases hnp:1<=ps.length
   ·cases hq:Dy (C3 vs Ab) with
    | false=>exact V4 t n ps fs vs hp hf hv hnf hpa ht0 hn0 hnp hq
    | true=>exact V5 t n ps fs vs hp hf hv hnf hpa ht0 hn0 hnp hq
   ·exact Ys t n ps fs vs hp hf hv hnf hpa ht0 hn0 hnp
  ·exact Yr t n ps fs vs hp hf hv hnf hpa ht0 hn0
 ·obtain⟨a0,l0,h⟩:=List.exists_cons_of_ne_nil ht0;exact Yt t n ps fs vs hp hf hv hnf hpa a0 l0 h
theorem Qt (t:ByteArray) (n:Int) (ps:List Ty) (fs:Bp) (vs:Bm) (hp:∀ p∈ps,Ad p) (hf:∀ f∈fs,Ad f.2.2) (hv:∀ v∈vs,∀ b∈v.2,Ad b) (hnv:vs.length=0) (hpa:ps.all Ab=true):Ad (.mk 14 t n ps fs vs):=by
 by_cases ht0:t.toList=[]
 ·by_cases hn0:n=0
  ·by_cases hnp:ps.length=0
   ·cases hq:Ca (Bf fs Ab) with
    | false=>exact V6 t n ps fs vs hp hf hv hnv hpa ht0 hn0 hnp hq
    | true=>exact V7 t n ps fs vs hp hf hv hnv hpa ht0 hn0 hnp hq
   ·exact Yv t n ps fs vs hp hf hv hnv hpa ht0 hn0 hnp
  ·exact Yu t n ps fs vs hp hf hv hnv hpa ht0 hn0
 ·obtain⟨a0,l0,h⟩:=List.exists_cons_of_ne_nil ht0;exact Yw t n ps fs vs hp hf hv hnv hpa a0 l0 h
theorem Qv (t:ByteArray) (n:Int) (ps:List Ty) (fs:Bp) (vs:Bm) (hp:∀ p∈ps,Ad p) (hf:∀ f∈fs,Ad f.2.2) (hv:∀ v∈vs,∀ b∈v.2,Ad b) (hnf:fs.length=0) (hnv:vs.length=0) (hpa:ps.all Ab=true):Ad (.mk 16 t n ps fs vs):=by
 cases hnm:Bo t with
 | false=>exact Uf 16 (by omega) t n ps fs vs hp hf hv hnf hnv hpa hnm
 | true=>
  by_cases hn0:n=0
  ·by_cases hnp:ps.length=0
   ·exact Ui 16 (by omega) t n ps fs vs hp hf hv hnf hnv hpa hnm hn0 hnp
   ·exact Uh 16 (by omega) t n ps fs vs hp hf hv hnf hnv hpa hnm hn0 hnp
  ·exact Ug 16 (by omega) t n ps fs vs hp hf hv hnf hnv hpa hnm hn0
theorem Qw (t:ByteArray) (n:Int) (ps:List Ty) (fs:Bp) (vs:Bm) (hp:∀ p∈ps,Ad p) (hf:∀ f∈fs,Ad f.2.2) (hv:∀ v∈vs,∀ b∈v.2,Ad b) (hnf:fs.length=0) (hnv:vs.length=0) (hpa:ps.all Ab=true):Ad (.mk 17 t n ps fs vs):=by
 cases hnm:Bo t with
 | false=>exact Y1 t n ps fs vs hp hf hv hnf hnv hpa hnm
 | true=>
  by_cases hn0:n=0
  ·exact Y3 t n ps fs vs hp hf hv hnf hnv hpa hnm hn0
  ·exact Y2 t n ps fs vs hp hf hv hnf hnv hpa hnm hn0
theorem Qx (t:ByteArray) (n:Int) (ps:List Ty) (fs:Bp) (vs:Bm) (hp:∀ p∈ps,Ad p) (hf:∀ f∈fs,Ad f.2.2) (hv:∀ v∈vs,∀ b∈v.2,Ad b) (hnf:fs.length=0) (hnv:vs.length=0) (hpa:ps.all Ab=true):Ad (.mk 18 t n ps fs vs):=by
 by_cases ht0:t.toList=[]
 ·by_cases hn0:n=0
  ·by_cases hnp:ps.length=1
   ·exact Um 18 (by omega) t n ps fs vs hp hf hv hnf hnv hpa ht0 hn0 hnp
   ·exact Uk 18 (by omega) t n ps fs vs hp hf hv hnf hnv hpa ht0 hn0 hnp
  ·exact Uj 18 (by omega) t n ps fs vs hp hf hv hnf hnv hpa ht0 hn0
 ·obtain⟨a0,l0,h⟩:=List.exists_cons_of_ne_nil ht0;exact Ul 18 (by omega) t n ps fs vs hp hf hv hnf hnv hpa a0 l0 h
theorem Qy (t:ByteArray) (n:Int) (ps:List Ty) (fs:Bp) (vs:Bm) (hp:∀ p∈ps,Ad p) (hf:∀ f∈fs,Ad f.2.2) (hv:∀ v∈vs,∀ b∈v.2,Ad b) (hnf:fs.length=0) (hnv:vs.length=0) (hpa:ps.all Ab=true):Ad (.mk 19 t n ps fs vs):=by
 by_cases ht0:t.toList=[]
 ·by_cases hn0:n=0
  ·by_cases hnp:ps.length=2
   ·exact Y7 t n ps fs vs hp hf hv hnf hnv hpa ht0 hn0 hnp
   ·exact Y5 t n ps fs vs hp hf hv hnf hnv hpa ht0 hn0 hnp
  ·exact Y4 t n ps fs vs hp hf hv hnf hnv hpa ht0 hn0
 ·obtain⟨a0,l0,h⟩:=List.exists_cons_of_ne_nil ht0;exact Y6 t n ps fs vs hp hf hv hnf hnv hpa a0 l0 h
theorem Qz (t:ByteArray) (n:Int) (ps:List Ty) (fs:Bp) (vs:Bm) (hp:∀ p∈ps,Ad p) (hf:∀ f∈fs,Ad f.2.2) (hv:∀ v∈vs,∀ b∈v.2,Ad b) (hnf:fs.length=0) (hnv:vs.length=0) (hpa:ps.all Ab=true):Ad (.mk 20 t n ps fs vs):=by
 cases hnm:Bo t with
 | false=>exact Y8 t n ps fs vs hp hf hv hnf hnv hpa hnm
 | true=>
  by_cases hn0:0<=n
  ·by_cases hn3:n<=3
   ·by_cases hnp:ps.length=2
    ·exact Zc t n ps fs vs hp hf hv hnf hnv hpa hnm hn0 hn3 hnp
    ·exact Zb t n ps fs vs hp hf hv hnf hnv hpa hnm hn0 hn3 hnp
   ·exact Za t n ps fs vs hp hf hv hnf hnv hpa hnm hn0 hn3
  ·exact Y9 t n ps fs vs hp hf hv hnf hnv hpa hnm hn0
theorem Q5 (t:ByteArray) (n:Int) (ps:List Ty) (fs:Bp) (vs:Bm) (hp:∀ p∈ps,Ad p) (hf:∀ f∈fs,Ad f.2.2) (hv:∀ v∈vs,∀ b∈v.2,Ad b) (hnf:fs.length=0) (hnv:vs.length=0) (hpa:ps.all Ab=true):Ad (.mk 21 t n ps fs vs):=by
 by_cases hnp:ps.length=4
 ·by_cases hn0:n=0
  ·by_cases ht0:t.toList=[]
   ·exact Zd t n ps fs vs hp hf hv hnf hnv hpa hnp hn0 ht0
   ·obtain⟨a0,l0,h⟩:=List.exists_cons_of_ne_nil ht0;exact Ze t n ps fs vs hp hf hv hnf hnv hpa hnp hn0 a0 l0 h
  ·by_cases hn1:n=1
   ·cases hnm:Bo t with
    | false=>exact V8 t n ps fs vs hp hf hv hnf hnv hpa hnp hn0 hn1 hnm
    | true=>exact V9 t n ps fs vs hp hf hv hnf hnv hpa hnp hn0 hn1 hnm
   ·exact Zf t n ps fs vs hp hf hv hnf hnv hpa hnp hn0 hn1
 ·exact Zg t n ps fs vs hp hf hv hnf hnv hpa hnp
theorem Q6 (t:ByteArray) (n:Int) (ps:List Ty) (fs:Bp) (vs:Bm) (hp:∀ p∈ps,Ad p) (hf:∀ f∈fs,Ad f.2.2) (hv:∀ v∈vs,∀ b∈v.2,Ad b) (hnf:fs.length=0) (hnv:vs.length=0) (hpa:ps.all Ab=true):Ad (.mk 22 t n ps fs vs):=by
 cases hnm:Bo t with
 | false=>exact Uf 22 (by omega) t n ps fs vs hp hf hv hnf hnv hpa hnm
 | true=>
  by_cases hn0:n=0
  ·by_cases hnp:ps.length=0
   ·exact Ui 22 (by omega) t n ps fs vs hp hf hv hnf hnv hpa hnm hn0 hnp
   ·exact Uh 22 (by omega) t n ps fs vs hp hf hv hnf hnv hpa hnm hn0 hnp
  ·exact Ug 22 (by omega) t n ps fs vs hp hf hv hnf hnv hpa hnm hn0
theorem Q7 (t:ByteArray) (n:Int) (ps:List Ty) (fs:Bp) (vs:Bm) (hp:∀ p∈ps,Ad p) (hf:∀ f∈fs,Ad f.2.2) (hv:∀ v∈vs,∀ b∈v.2,Ad b) (hnf:fs.length=0) (hnv:vs.length=0) (hpa:ps.all Ab=true):Ad (.mk 23 t n ps fs vs):=by
 by_cases ht0:t.toList=[]
 ·by_cases hn0:n=0
  ·by_cases hnp:2<=ps.length
   ·cases hq:Io ps with
    | false=>exact Wa t n ps fs vs hp hf hv hnf hnv hpa ht0 hn0 hnp hq
    | true=>exact Wb t n ps fs vs hp hf hv hnf hnv hpa ht0 hn0 hnp hq
   ·exact Zi t n ps fs vs hp hf hv hnf hnv hpa ht0 hn0 hnp
  ·exact Zh t n ps fs vs hp hf hv hnf hnv hpa ht0 hn0
 ·obtain⟨a0,l0,h⟩:=List.exists_cons_of_ne_nil ht0;exact Zj t n ps fs vs hp hf hv hnf hnv hpa a0 l0 h
theorem St (k:Int) (t:ByteArray) (n:Int) (ps:List Ty) (fs:Bp) (vs:Bm) (hp:∀ p∈ps,Ad p) (hf:∀ f∈fs,Ad f.2.2) (hv:∀ v∈vs,∀ b∈v.2,Ad b):Ad (.mk k t n ps fs vs):=by
 by_cases h14:k=14
 ·subst h14;by_cases hnv:vs.length=0
  ·cases hpa:ps.all Ab with
   | false=>exact Wf t n ps fs vs hp hf hv hnv hpa
   | true=>exact Qt t n ps fs vs hp hf hv hnv hpa
  ·exact Wd t n ps fs vs hp hf hv (by omega)
 by_cases hnf:fs.length=0
 ·by_cases h13:k=13
  ·subst h13
   cases hpa:ps.all Ab with
   | false=>exact We t n ps fs vs hp hf hv hnf hpa
   | true=>exact Qs t n ps fs vs hp hf hv hnf hpa
  by_cases hnv:vs.length=0
  ·cases hpa:ps.all Ab with
   | false=>exact Jcp k t n ps fs vs hp hf hv h14 hnf h13 hnv hpa
   | true=>
    by_cases hL:k=1\/k=2\/k=3\/k=4\/k=5\/k=6\/k=7\/k=8
    ·exact Sq k hL t n ps fs vs hp hf hv hnf hnv hpa
    by_cases h9:k=9
    ·subst h9;exact Sp t n ps fs vs hp hf hv hnf hnv hpa
    by_cases h10:k=10
    ·subst h10;exact Qp t n ps fs vs hp hf hv hnf hnv hpa
    by_cases h11:k=11
    ·subst h11;exact Qq t n ps fs vs hp hf hv hnf hnv hpa
    by_cases h12:k=12
    ·subst h12;exact Qr t n ps fs vs hp hf hv hnf hnv hpa
    by_cases h15:k=15
    ·subst h15;exact Qu t n ps fs vs hp hf hv hnf hnv hpa
    by_cases h16:k=16
    ·subst h16;exact Qv t n ps fs vs hp hf hv hnf hnv hpa
    by_cases h17:k=17
    ·subst h17;exact Qw t n ps fs vs hp hf hv hnf hnv hpa
    by_cases h18:k=18
    ·subst h18;exact Qx t n ps fs vs hp hf hv hnf hnv hpa
    by_cases h19:k=19
    ·subst h19;exact Qy t n ps fs vs hp hf hv hnf hnv hpa
    by_cases h20:k=20
    ·subst h20;exact Qz t n ps fs vs hp hf hv hnf hnv hpa
    by_cases h21:k=21
    ·subst h21;exact Q5 t n ps fs vs hp hf hv hnf hnv hpa
    by_cases h22:k=22
    ·subst h22;exact Q6 t n ps fs vs hp hf hv hnf hnv hpa
    by_cases h23:k=23
    ·subst h23;exact Q7 t n ps fs vs hp hf hv hnf hnv hpa
    exact Jcn k t n ps fs vs hp hf hv (by omega) (by omega) (by omega) (by omega) (by omega) (by omega) (by omega) (by omega) h9 h10 h11 h12 h13 h14 h15 h16 h17 h18 h19 h20 h21 h22 h23 hnf hnv hpa
  ·exact Jco k t n ps fs vs hp hf hv h14 hnf h13 (by omega)
 ·exact Jcm k t n ps fs vs hp hf hv h14 (by omega)
theorem Zm (t:Ty):Ad t:=Ty.ind (C:=Ad) (fun k t n ps fs vs hp hf hv=>St k t n ps fs vs hp hf hv) t
open Go.RowKit Go.Sort
theorem S0 {K:Nat->Prop} {w:World} {t:Ty} {cs:List Value} (hr:RepT K w t cs) (hf:Ab t=true) (hn:(Aw t).length<=1000000000) :
  Calls Tryz.prog 93 #[.agg cs.toArray] w fun e w'=>∃ A c,e=.returned (.slice A (H3 (Aw t)).length c)/\ListS w' (H3 (Aw t)) A/\(∀ b o,A=some ⟨b,o,none⟩->w.heap.size<=b)/\Below w.heap.size w w':=by
 have kinf:=Zy t;obtain⟨k,s,n,ps,fs,vs⟩:=t;obtain⟨A,c,B,d,C,e0,rfl,-⟩:=hr.inv;simp only[Ar] at hr ⊢;obtain⟨w0,hw0⟩:∃ x,x=w.alloc (.cells #[.int .i64 k,.string s,.int .i64 n,.slice A ps.length c,.slice B fs.length d,.slice C vs.length e0] 26):=⟨_,rfl⟩;obtain⟨w1,hw1⟩:∃ x,x=w0.alloc (.cells #[.slice none 0 0] 46):=⟨_,rfl⟩;have hat:AtT K w0 (.mk k s n ps fs vs) w.heap.size 0:=by rw[hw0];exact AtT.box 26 hr
 have hb0:Below w.heap.size w w0:=by rw[hw0];exact (Below.refl _ _).alloc (Nat.le_refl _) _
 have hb1:Below w0.heap.size w0 w1:=by rw[hw1];exact (Below.refl _ _).alloc (Nat.le_refl _) _
 have hnm:Tv w0 w1 w0.heap.size []:=⟨.slice none 0 0,by rw[hw1];exact heap_alloc_new w0 _,⟨rfl,.inl ⟨rfl,rfl⟩⟩,hb1,Nat.le_refl _⟩;have KI:=Hd (kinf K w0 w1 w.heap.size 0 w0.heap.size [] hat hf hnm (by simp only[List.length_nil];omega));have HB0:=Hd hb0;have HW0:=Hd hw0;have HW1:=Hd hw1;clear kinf hr hat hb0 hb1 hnm hw0 hw1 hf;rw[List.nil_append] at KI;generalize Aw (.mk k s n ps fs vs)=l at KI hn ⊢;go_enter Tryz.func93,Tryz.ntmps93;go_upto_region 1 with fail
 rw[<-HW0.out];go_upto_region 2 with fail
 rw[<-HW1.out];go_wp2_with fail;refine KI.out.mono ?_;rintro e w2 ⟨rfl,v,hv,ho,hb,hg⟩;have HB2:=Hd (HB0.out.trans (hb.mono HB0.out.size));have hB0:=HB0.out.size;rcases ho.of with ⟨rfl,rfl⟩ | ⟨g,c',rfl,hgb,hs⟩
 ·have z0:w2.cell? ⟨w0.heap.size,0,none⟩=some (.slice none 0 0):=Ch hv 0;clear hv ho hb hg;go_wp2_with fail;refine (Jez _ _ _).mono ?_;rintro e w' ⟨rfl,hw⟩;obtain rfl:=hw.symm;go_wp2_with fail;refine (Vq _ _ _).mono ?_;rintro e w' ⟨rfl,hw⟩;obtain rfl:=hw.symm;go_wp2_with fail;go_ret
  exact⟨none,0,by rw[Ou];rfl,by rw[Ou];exact⟨0,0,fun h=>absurd h (by simp),by simp,fun i h=>absurd h (by simp)⟩,(fun b o e=>by cases e),HB2.out⟩
 ·have z0:w2.cell? ⟨w0.heap.size,0,none⟩=some (.slice (some ⟨g,0,none⟩) l.length c'):=Ch hv 0;have KS:=Hd (Jbe hs hgb hn);have HNE:Hid (w0.heap.size≠g):=Hd fun e=>by
   obtain⟨cur,h1,_⟩:=hs.blk;rw[<-e,hv] at h1;injection h1 with h1
   injection h1 with _ h1
   exact absurd h1 (by decide)
  have HLT:Hid (w0.heap.size<w2.heap.size):=Hd (Array.getElem?_eq_some_iff.1 hv).1;have HGB:=Hd hgb;clear hv ho hb hg hs hgb;go_wp2_with fail;refine KS.out.mono ?_;rintro e w3 ⟨rfl,hs3,hgr⟩;have HB3:=Hd (HB2.out.grown hgr HB2.out.size fun k hk=>by injection hk with hk;have:=HGB.out;have:=HB0.out.size;omega);have KC:=Hd (Np hs3 HGB.out (by rw[Kh];exact hn));have z1:w3.cell? ⟨w0.heap.size,0,none⟩=some (.slice (some ⟨g,0,none⟩) l.length c'):=(World.cell?_of_block (a:=⟨w0.heap.size,0,none⟩) (hgr.block w0.heap.size HLT.out fun e=>HNE.out (by injection e))).trans z0;rw[W6,Kh] at KC;clear hs3 hgr KS z0;go_wp2_with fail;refine KC.out.mono ?_;rintro e w4 ⟨rfl,hs4,hb4⟩;have HFIN:Hid (ListS w4 (H3 l) (some ⟨g,0,none⟩)/\Below w.heap.size w w4):=Hd ⟨hs4.list (show (H3 l).length<=_ from by have:=Ke l;omega),HB3.out.trans (hb4.mono HB0.out.size)⟩;go_wp2_with fail;go_ret
  exact⟨some ⟨g,0,none⟩,c',by unfold H3;rw[List.length_map];rfl,HFIN.out.1,(fun b o e=>by injection e with e;injection e with e;have h1:=HGB.out;have h2:=HB0.out.size;omega),HFIN.out.2⟩
theorem Pn:Lu:=fun K w t cs hr hf hn=>(S0 hr hf hn).mono fun e w' h=>by
 obtain⟨A,c,h1,h2,h3,h4⟩:=h;exact⟨H3 (Aw t),A,c,h1,h2,fun x=>Wo,Ke _,h3,h4⟩
theorem Sr {K:Nat->Prop} {w:World} {t:Ty} {cs:List Value} (hr:RepT K w t cs) :
  Calls Tryz.prog 15 #[.agg cs.toArray] w fun e w'=>e=.returned (.bool (D9 t))/\Below w.heap.size w w':=by
 have hN:=Ut t;have hFo:=Zm t;have hsp:D9 t=(decide (Ai t<=4096) && Ab t):=rfl;generalize hft:Ab t=r at hsp;obtain⟨k,s,n,ps,fs,vs⟩:=t;have KN:=Hd fun wx (hx:Below w.heap.size w wx)=>hN K wx cs (hr.later hx);have KF:=Hd fun wx (hx:Below w.heap.size w wx) h=>hFo K wx cs (hr.later hx) h;obtain⟨A,c,A',c',A'',c'',rfl,-⟩:=hr.inv;simp only[Ar] at KN KF ⊢;rw[hft] at KF;obtain⟨w1,hw1⟩:∃ x,x=w.alloc (.cells #[.int .i64 k,.string s,.int .i64 n,.slice A ps.length c,.slice A' fs.length c',.slice A'' vs.length c''] 26):=⟨_,rfl⟩;have hb1:Below w.heap.size w w1:=by rw[hw1];exact (Below.refl _ _).alloc (Nat.le_refl _) _
 have hs1:w1.heap.size=w.heap.size+1:=by rw[hw1];simp
 have hx0:w1.heap[w.heap.size]?=some (.cells #[.int .i64 k,.string s,.int .i64 n,.slice A ps.length c,.slice A' fs.length c',.slice A'' vs.length c''] 26 (0,0)):=by rw[hw1];exact heap_alloc_new w _
 have HB1:=Hd hb1;have HS1:=Hd hs1;have HX0:=Hd hx0;have HW1:=Hd hw1;have HSP:=Hd hsp;generalize Ai (.mk k s n ps fs vs)=q at KN KF HSP;clear hr hN hFo hb1 hs1 hx0 hw1 hsp hft;go_enter Tryz.func15,Tryz.ntmps15;go_upto_region 1 with fail
 rw[<-HW1.out];obtain⟨x0,x1,x2,x3,x4,x5⟩:=Fs HX0.out;go_wp2_with fail;refine (KN.out _ HB1.out).mono ?_;rintro e w2 ⟨rfl,hg⟩;have HB2:=Hd (HB1.out.trans (hg.below.mono HB1.out.size));have h2:=Bc hg.below (by have:=HS1.out;omega) HX0.out;clear x0 x1 x2 x3 x4 x5 hg KN;obtain⟨x0,x1,x2,x3,x4,x5⟩:=Fs h2;clear h2;by_cases hq:q<=4096
 ·have t1:decide ((Cg q:Int)<=4096)=true:=decide_eq_true (by unfold Cg;omega);have t2:decide (Cg q<=4096)=true:=decide_eq_true (by unfold Cg;omega);have KF2:=Hd (KF.out _ HB2.out (by omega));have HV:Hid (D9 (.mk k s n ps fs vs)=r):=Hd (by rw[HSP.out,decide_eq_true hq];rfl);clear hq KF;go_wp2_with fail;refine KF2.out.mono ?_;rintro e w3 ⟨rfl,hb3⟩;have HB3:=Hd (HB2.out.trans (hb3.mono HB2.out.size));clear hb3 KF2;go_wp2_with fail;go_ret
  exact⟨by rw[HV.out];rfl,HB3.out⟩
 ·have t1:decide ((Cg q:Int)<=4096)=false:=decide_eq_false (by unfold Cg;omega);have t2:decide (Cg q<=4096)=false:=decide_eq_false (by unfold Cg;omega);have HV:Hid (D9 (.mk k s n ps fs vs)=false):=Hd (by rw[HSP.out,decide_eq_false hq];rfl);clear hq KF;go_wp2_with fail;go_ret
  exact⟨by rw[HV.out];rfl,HB2.out⟩
theorem Jbs {s:ByteArray} {n:Int} {ps:List Ty} {fs:Bp} {vs:Bm}:Lz (.mk 16 s n ps fs vs):=by
 intro K U g mb mf w bp op c S ha hbp hK hS hU hUl hc hfm hvs;obtain⟨A,d,A2,d2,A3,d3,HX,HP,HF,HV,HT⟩:=Px ha hbp hK;obtain⟨l1,l2,-,-⟩:=D8 hfm;have HZ1:Hid (ps.length=0):=Hd ((Pe (Db hfm)).2.2 rfl);have HZ2:Hid (fs.length=0):=Hd (l1 (by decide));have HZ3:Hid (vs.length=0):=Hd (l2 (by decide));have HK:=Hd hK;have HUL:=Hd hUl;have HC:=Hd hc;have HFT:Hid (∀ x,Bl x (.mk 16 s n ps fs vs)=decide (s=x)):=Hd fun x=>by
  have e1:ps=[]:=List.eq_nil_of_length_eq_zero HZ1.out;have e2:fs=[]:=List.eq_nil_of_length_eq_zero HZ2.out;have e3:vs=[]:=List.eq_nil_of_length_eq_zero HZ3.out;rw[Ef,e1,e2,e3];have e4:J1 x []=false:=rfl;have e5:Mj x []=false:=rfl;rw[e4,e5,Em];simp
 have hsm:s.size<=maxLen:=Nat.le_trans HT.out (by decide);obtain⟨v1,hv1⟩:∃ v1,v1=c s:=⟨_,rfl⟩;have hsd:=hS.later (Below.refl w.heap.size w).drew;have hsd2:=hS.later (Below.refl w.heap.size w).drew.drew;have lk:(Instr.lookup 185 (.map (some mb)) (.string s) false).run Tryz.prog w.drew=.ok (.int .i64 (v1:Int)) w.drew:=by rw[hv1];exact hsd.look s hsm
 have LK:=Hd lk;have hb1:ButG (fun x=>x=mb\/x=mf) w w.drew:=ButG.of_below (Below.refl _ _).drew;have hb2:ButG (fun x=>x=mb\/x=mf) w w.drew.drew:=ButG.of_below (Below.refl _ _).drew.drew;have HB1:=Hd hb1;have HB2:=Hd hb2;have HS2:Hid (w.drew.cell? ⟨g,0,none⟩=some (.map (some mb))/\w.drew.cell? ⟨bp,op+1,none⟩=some (.string s)):=Hd ⟨hsd.cell.1,(HX.out _ hb1).2.1⟩;have HS3:Hid (w.drew.drew.cell? ⟨g,1,none⟩=some (.map (some mf))/\w.drew.drew.cell? ⟨bp,op+1,none⟩=some (.string s)):=Hd ⟨hsd2.cell.2,(HX.out _ hb2).2.1⟩;obtain⟨w4,hup,hs4,hb4⟩:=hsd2.add hUl s (hU s G6) hsm;have HUP:=Hd hup;have HS4:Hid (SeS U w4 g mb mf c (fun x=>decide (s=x) || S x)):=Hd hs4;have HB4:Hid (ButG (fun x=>x=mb\/x=mf) w w4):=Hd (hb2.trans hb4 fun x h=>.inl (.inr h));have HSD:Hid (SeS U w.drew g mb mf c S):=Hd hsd;obtain⟨x0,-,-,-,-,-⟩:=HX.out _ (ButG.refl _ _);have HV1:=Hd hv1;clear ha hbp hK hS hU hUl hc hfm hvs l1 l2 hsm hsd hsd2 lk hb1 hb2 hup hs4 hb4 hv1;go_enter Tryz.func153,Tryz.ntmps153;go_upto_region 2 with fail
 clear x0;refine wp_region_held_drew (S:=(fun w'=>w'.cell? ⟨g,0,none⟩=some (.map (some mb))/\w'.cell? ⟨bp,op+1,none⟩=some (.string s))) (by kernel_rfl) HS2.out (fun hHeld=>?_);refine Plan.start [0,1,2,3,4,5,6,7] ?_
 iterate 8 (refine Plan.tk (so rfl) hHeld ?_;try simp only[Act.put,Ax,Ay,Az])
 refine Plan.done ?_;have lk:=LK.out;refine wpAnyH_ready (rs:=[8]) (by kernel_rfl) (by simp) ?_;refine AllReadyH.cons (sd (some 23) rfl) (fun Kx hK=>?_) AllReadyH.nil;go_simp;clear lk;refine hK.out _ _ (HS2.out) (fun hHeld=>?_);clear hK Kx;try simp only[Act.put,Ax,Ay,Az]
 refine Plan.start [9] ?_;refine Plan.tk (so rfl) hHeld ?_;try simp only[Act.put,Ax,Ay,Az]
 refine Plan.done ?_;refine wpAnyH_done (by kernel_rfl) ?_ _;clear hHeld;by_cases h0:v1=0
 ·have t0:((v1:Int) == 0)=true:=by simp[h0]
  rw[t0];have HFX:Hid (∀ x,((decide (s=x) || S x) || (decide (c x=0) && (!Cl [] x && Hr x ps)))=(S x || (decide (c x=0) && Bl x (.mk 16 s n ps fs vs)))):=Hd fun x=>by
   rw[HFT.out];have e1:ps=[]:=List.eq_nil_of_length_eq_zero HZ1.out;have e2:Hr x ps=false:=by rw[e1];rfl
   rw[e2];by_cases e:s=x
   ·subst e;have:c s=0:=by rw[<-HV1.out];exact h0
    simp[this]
   ·simp[e]
  clear h0 t0;go_upto_region 3 with fail
  refine wp_region_held_drew (S:=(fun w'=>w'.cell? ⟨g,1,none⟩=some (.map (some mf))/\w'.cell? ⟨bp,op+1,none⟩=some (.string s))) (by kernel_rfl) HS3.out (fun hHeld=>?_);refine Plan.start [0,1,2,3,4,5,6,7,8] ?_
  iterate 9 (refine Plan.tk (so rfl) hHeld ?_;try simp only[Act.put,Ax,Ay,Az])
  refine Plan.done ?_;have hup:=HUP.out;refine wpAnyH_ready (rs:=[9]) (by kernel_rfl) (by simp) ?_;refine AllReadyH.cons (sd none rfl) (fun Kx hK=>?_) AllReadyH.nil;go_simp;clear hup;obtain⟨wX,hwX⟩:∃ x,x=w4:=⟨_,rfl⟩;have HSX:Hid (SeS U wX g mb mf c (fun x=>decide (s=x) || S x)):=Hd (by rw[hwX];exact HS4.out);have HBX:Hid (ButG (fun x=>x=mb\/x=mf) w wX):=Hd (by rw[hwX];exact HB4.out);rw[<-hwX];clear hwX;refine hK.out _ _ (⟨HSX.out.cell.2,(HX.out _ HBX.out).2.1⟩) (fun hHeld=>?_);clear hK Kx;try simp only[Act.put,Ax,Ay,Az]
  refine wpAnyH_done (by kernel_rfl) ?_ _;clear hHeld;have KW0:=D5 (N:=[]) (AN:=none) (cN:=0) (B:=9000000000000000000) (K:=K) ⟨0,0,fun h=>absurd h (by simp),by simp,fun i hi=>absurd hi (by simp)⟩ (fun b o e=>by cases e) (HP.out wX HBX.out) (fun x hx=>⟨Nat.lt_of_lt_of_le (HK.out x hx).1 HBX.out.size,(HK.out x hx).2⟩) HSX.out (fun x hx=>absurd hx (by simp)) HUL.out (fun x=>by have h1:=HC.out x;simp only[cI,List.countP_nil];omega) (Nat.le_refl _) (fun p hp=>absurd (List.length_pos_of_mem hp) (by have:=HZ1.out;omega)) (fun p hp=>absurd (List.length_pos_of_mem hp) (by have:=HZ1.out;omega));have KW:Hid (Calls Tryz.prog 187 #[.pointer (some ⟨g,0,none⟩),.slice none 0 0,.slice A ps.length d] wX (Iq U g mb mf wX c _ _)):=Hd KW0;obtain⟨x0,-,-,x3,-,-⟩:=HX.out _ HBX.out;clear KW0;go_wp2_with fail;refine KW.out.mono ?_;rintro e w3 ⟨rfl,hs3,hb3⟩;have HS3:=Hd hs3;have HB3:Hid (ButG (fun x=>x=mb\/x=mf) w w3):=Hd (HBX.out.trans hb3 fun x h=>.inl h);clear hs3 hb3 KW x0 x3;obtain⟨-,-,-,-,-,x5⟩:=HX.out _ HB3.out;go_wp2_with fail;clear x5
  go_loopw [76] (fun v wr=>(∃ i:Nat,v=.int .i64 i)/\wr=w3) (fun _ _=>0)
  case atStart=>exact⟨⟨0,rfl⟩,rfl⟩
  case round=>
   obtain⟨⟨i,rfl⟩,hwr⟩:=hrel;obtain rfl:w3=wr:=hwr.symm;clear hwr;have t1:decide ((i:Int)<(vs.length:Int))=false:=by have:=HZ3.out;simp;omega
   have hin:¬ i<vs.length:=by have:=HZ3.out;omega
   obtain⟨-,-,-,-,x4,-⟩:=HX.out _ HB3.out;go_wp2_with fail;clear x4 t1 hin
   go_loopw [96] (fun v wr=>(∃ i:Nat,v=.int .i64 i)/\wr=w3) (fun _ _=>0)
   case atStart=>exact⟨⟨0,rfl⟩,rfl⟩
   case round=>
    obtain⟨⟨i,rfl⟩,hwr⟩:=hrel;obtain rfl:w3=wr:=hwr.symm;clear hwr;have t1:decide ((i:Int)<(fs.length:Int))=false:=(by have:=HZ2.out;simp;omega);have hin:¬ i<fs.length:=(by have:=HZ2.out;omega);have HFS:=Hd (HS3.out.same (fun _=>rfl) HFX.out);clear t1;have t1:decide ((i:Int)<(fs.length:Int))=false:=(by have:=HZ2.out;simp;omega);go_wp2_with fail
    go_end0
    exact⟨rfl,HFS.out,HB3.out⟩
 ·have t0:((v1:Int) == 0)=false:=by simp[h0]
  rw[t0];have HFX:Hid (∀ x,(S x || (decide (c x=0) && (!Cl [] x && Hr x ps)))=(S x || (decide (c x=0) && Bl x (.mk 16 s n ps fs vs)))):=Hd fun x=>by
   rw[HFT.out];have e1:ps=[]:=List.eq_nil_of_length_eq_zero HZ1.out;have e2:Hr x ps=false:=by rw[e1];rfl
   rw[e2];by_cases e:s=x
   ·subst e;have:¬ c s=0:=by rw[<-HV1.out];exact h0
    simp[this]
   ·simp[e]
  clear h0 t0;obtain⟨wX,hwX⟩:∃ x,x=w.drew:=⟨_,rfl⟩;have HSX:Hid (SeS U wX g mb mf c S):=Hd (by rw[hwX];exact HSD.out);have HBX:Hid (ButG (fun x=>x=mb\/x=mf) w wX):=Hd (by rw[hwX];exact HB1.out);rw[<-hwX];clear hwX;have KW0:=D5 (N:=[]) (AN:=none) (cN:=0) (B:=9000000000000000000) (K:=K) ⟨0,0,fun h=>absurd h (by simp),by simp,fun i hi=>absurd hi (by simp)⟩ (fun b o e=>by cases e) (HP.out wX HBX.out) (fun x hx=>⟨Nat.lt_of_lt_of_le (HK.out x hx).1 HBX.out.size,(HK.out x hx).2⟩) HSX.out (fun x hx=>absurd hx (by simp)) HUL.out (fun x=>by have h1:=HC.out x;simp only[cI,List.countP_nil];omega) (Nat.le_refl _) (fun p hp=>absurd (List.length_pos_of_mem hp) (by have:=HZ1.out;omega)) (fun p hp=>absurd (List.length_pos_of_mem hp) (by have:=HZ1.out;omega));have KW:Hid (Calls Tryz.prog 187 #[.pointer (some ⟨g,0,none⟩),.slice none 0 0,.slice A ps.length d] wX (Iq U g mb mf wX c _ _)):=Hd KW0;obtain⟨x0,-,-,x3,-,-⟩:=HX.out _ HBX.out;clear KW0;go_wp2_with fail;refine KW.out.mono ?_;rintro e w3 ⟨rfl,hs3,hb3⟩;have HS3:=Hd hs3;have HB3:Hid (ButG (fun x=>x=mb\/x=mf) w w3):=Hd (HBX.out.trans hb3 fun x h=>.inl h);clear hs3 hb3 KW x0 x3;obtain⟨-,-,-,-,-,x5⟩:=HX.out _ HB3.out;go_wp2_with fail;clear x5
  go_loopw [76] (fun v wr=>(∃ i:Nat,v=.int .i64 i)/\wr=w3) (fun _ _=>0)
  case atStart=>exact⟨⟨0,rfl⟩,rfl⟩
  case round=>
   obtain⟨⟨i,rfl⟩,hwr⟩:=hrel;obtain rfl:w3=wr:=hwr.symm;clear hwr;have t1:decide ((i:Int)<(vs.length:Int))=false:=by have:=HZ3.out;simp;omega
   have hin:¬ i<vs.length:=by have:=HZ3.out;omega
   obtain⟨-,-,-,-,x4,-⟩:=HX.out _ HB3.out;go_wp2_with fail;clear x4 t1 hin
   go_loopw [96] (fun v wr=>(∃ i:Nat,v=.int .i64 i)/\wr=w3) (fun _ _=>0)
   case atStart=>exact⟨⟨0,rfl⟩,rfl⟩
   case round=>
    obtain⟨⟨i,rfl⟩,hwr⟩:=hrel;obtain rfl:w3=wr:=hwr.symm;clear hwr;have t1:decide ((i:Int)<(fs.length:Int))=false:=(by have:=HZ2.out;simp;omega);have hin:¬ i<fs.length:=(by have:=HZ2.out;omega);have HFS:=Hd (HS3.out.same (fun _=>rfl) HFX.out);clear t1;have t1:decide ((i:Int)<(fs.length:Int))=false:=(by have:=HZ2.out;simp;omega);go_wp2_with fail
    go_end0
    exact⟨rfl,HFS.out,HB3.out⟩
theorem Ue {k:Int} {s:ByteArray} {n:Int} {ps:List Ty} {fs:Bp} {vs:Bm} (h:Ab (.mk k s n ps fs vs)=true) (m:Nat) (h1:(Ae k).lo=(m:Int)) (h2:(Ae k).hi=(m:Int)):ps.length=m:=by
 have hf:=Db h;unfold Aj at hf;rw[h1,h2] at hf;simp only[Bool.and_eq_true,decide_eq_true_eq,Bool.or_eq_true,beq_iff_eq] at hf;omega
theorem Je0 {α:Type}:∀ {l:List α},l.length=2->∃ a b,l=[a,b]
 | [a,b],_=>⟨a,b,rfl⟩
theorem Jcq {α:Type}:∀ {l:List α},l.length=4->∃ a b c d,l=[a,b,c,d]
 | [a,b,c,d],_=>⟨a,b,c,d,rfl⟩
theorem ListT.caps {K:Nat->Prop} {w:World} {l:List Ty} {A:Option Addr} {c:Nat} (h:ListT K w l A c):l.length<=c:=by
 obtain⟨b,o,h1,-⟩:=h;exact h1.le
theorem ListT.one {K:Nat->Prop} {w:World} {p:Ty} {b o c:Nat} (h:AtT K w p b o) (hb:K b) (hc:1<=c):ListT K w [p] (some ⟨b,o,none⟩) c:=
 ⟨b,o,⟨hc,(by decide:1<=1000000000000000),(fun h=>by cases h),fun _=>⟨rfl,hb⟩⟩,fun i hi=>by
  have:i=0:=by simpa using hi
  subst this;simpa using h⟩
theorem Jan {w:World} {nq:Nat} {s:ByteArray} (h:w.heap[nq]?=some (.cells #[.string s] 9 (0,0))):ListS w [s] (some ⟨nq,0,none⟩):=
 ⟨nq,0,fun _=>rfl,by simp,fun i hi=>by
  have:i=0:=by simpa using hi
  subst this;rw[Ch h];rfl⟩
theorem Jag (w:World):ListS w [] none:=⟨0,0,fun h=>absurd h (by simp),by simp,fun i hi=>absurd hi (by simp)⟩
theorem Lj (x:ByteArray) (p:Ty):Hr x [p]=Bl x p:=by unfold Hr;simp
theorem Jcs (x s:ByteArray):Cl [s] x=decide (s=x):=by unfold Cl;simp
theorem Su (x s:ByteArray) (n:Int) (p0 p1:Ty):Bl x (.mk 20 s n [p0,p1] [] [])=(Bl x p0 || (!decide (s=x) && Bl x p1)):=by
 rw[Ef];have e1:J1 x []=false:=rfl;have e2:Mj x []=false:=rfl;have e3:Dq [] x=false:=rfl;rw[e1,e2,e3,Em,Em,Em];simp[C5]
theorem Jcb {K:Nat->Prop} {U:List ByteArray} {g mb mf:Nat} {w:World} {bp op tb tq d:Nat} {c:ByteArray->Nat} {S:ByteArray->Bool} {s:ByteArray} {p0 p1:Ty} (hX:∀ wx,ButG (fun x=>x=mb\/x=mf) w wx->wx.cell? ⟨bp,op+1,none⟩=some (.string s)/\wx.cell? ⟨bp,op+3,none⟩=some (.slice (some ⟨tb,tq,none⟩) 2 d)) (h0:∀ wx,ButG (fun x=>x=mb\/x=mf) w wx->AtT K wx p0 tb tq) (h1:∀ wx,ButG (fun x=>x=mb\/x=mf) w wx->AtT K wx p1 tb (tq+6)) (hKb:K tb) (hd:2<=d)
  (hK:∀ x,K x->x<w.heap.size/\x≠mb/\x≠mf) (hS:SeS U w g mb mf c S) (hs:s∈U/\s.size<=maxLen) (hU0:∀ x∈Ee p0,x∈U) (hU1:∀ x∈Ee p1,x∈U) (hUl:U.length<maxLen) (hc:∀ x,c x+(1+Ai p0+Ai p1)*1000000000000002<=9000000000000000000) (hf0:Ab p0=true/\Da p0=true) (hf1:Ab p1=true/\Da p1=true) (i0:Lz p0) (i1:Lz p1) :
  Calls Tryz.prog 185 #[.pointer (some ⟨g,0,none⟩),.pointer (some ⟨bp,op,none⟩),.int .i64 1] w (Iq U g mb mf w c S fun x=>Bl x p0 || (!decide (s=x) && Bl x p1)):=by
 have HX:=Hd hX;have HK:=Hd hK;have HUL:=Hd hUl;have HSU:=Hd hs;have HLT:=Hd hS.lt;have HKb:=Hd hKb;have HA1:=Hd h1;have HD:=Hd hd;have HB0:Hid (∀ x,c x+1<=9000000000000000000 - (Ai p0+Ai p1)*1000000000000002/\(Ai p0+Ai p1)*1000000000000002<=9000000000000000000):=Hd fun x=>by
  have h:=hc x;rw[Nat.add_mul,Nat.add_mul] at h;rw[Nat.add_mul];omega
 have HP1:=Hd (And.intro hU1 (And.intro hf1 i1));have KW:=Hd (D5 (N:=[]) (AN:=none) (cN:=0) (ps:=[p0]) (B:=9000000000000000000 - (Ai p0+Ai p1)*1000000000000002) (Jag w) (fun b o e=>by cases e) (ListT.one (c:=d) (h0 w (ButG.refl _ _)) hKb (by omega)) hK hS (fun x hx=>absurd hx (by simp)) hUl (fun x=>by have h:=HB0.out x;simp only[cI,List.countP_nil];omega) (Nat.sub_le _ _) (fun p hp=>by
  obtain rfl:p=p0:=by simpa using hp
  refine⟨hU0,hf0,?_⟩;have h:=(HB0.out s).2;rw[Nat.add_mul] at h ⊢;omega) (fun p hp=>by obtain rfl:p=p0:=(by simpa using hp);exact i0))
 have j1:(1:Int)<=2:=by decide
 have hmin:min (1:Int) 2=1:=by decide
 have hd1:¬ d=1:=by omega
 have j2:(2:Int)<=(d:Int):=by omega
 have j3:(1:Int)<=(d:Int):=by omega
 obtain⟨-,x3⟩:=hX w (ButG.refl _ _);clear hX h0 h1 hKb hd hK hS hs hU0 hU1 hUl hc hf0 hf1 i0 i1;go_enter Tryz.func185,Tryz.ntmps185;go_wp2_with fail;refine KW.out.mono ?_;rintro e w3 ⟨rfl,hs3,hb3⟩;have HB3:=Hd hb3;have HB3d:=Hd (hb3.then (Below.refl w3.heap.size w3).drew);obtain⟨nq,hnq⟩:∃ x,x=w3.heap.size:=⟨_,rfl⟩;obtain⟨wq,hwq⟩:∃ x,x=(w3.alloc (.cells #[.string s] 9)).drew:=⟨_,rfl⟩;have hbq:Below w3.heap.size w3 wq:=by rw[hwq];exact ((Below.refl w3.heap.size w3).alloc (Nat.le_refl _) _).drew
 have hxq:wq.heap[nq]?=some (.cells #[.string s] 9 (0,0)):=by rw[hwq,hnq];exact heap_alloc_new w3 _
 have HBQ:=Hd (hb3.then hbq);have HBQ3:=Hd hbq;have HNQ:Hid (nq≠mb/\nq≠mf):=Hd (by have h1:=HLT.out;have h2:=hb3.size;omega);have hs3q:=hs3.later hbq;have KW2:=Hd (D5 (N:=[s]) (AN:=some ⟨nq,0,none⟩) (cN:=1) (ps:=[p1]) (B:=9000000000000000000 - (Ai p0+Ai p1)*1000000000000002) (Jan hxq) (fun b o e=>by injection e with e;injection e with e;subst e;exact HNQ.out) (ListT.one (c:=d - 1) (HA1.out wq HBQ.out) HKb.out (by have:=HD.out;omega)) (fun x hx=>⟨Nat.lt_of_lt_of_le (HK.out x hx).1 HBQ.out.size,(HK.out x hx).2⟩) hs3q (fun x hx=>by obtain rfl:x=s:=(by simpa using hx);exact HSU.out) HUL.out (fun x=>by have h:=HB0.out x;have h2:=T6 [s] x;simp only[List.length_singleton] at h2;omega) (Nat.sub_le _ _) (fun p hp=>by
  obtain rfl:p=p1:=by simpa using hp
  refine⟨HP1.out.1,HP1.out.2.1,?_⟩;have h:=(HB0.out s).2;rw[Nat.add_mul] at h ⊢;omega) (fun p hp=>by obtain rfl:p=p1:=(by simpa using hp);exact HP1.out.2.2))
 have HWQ:=Hd hwq;have HNQ2:=Hd hnq;clear hs3 hb3 KW x3 hnq hwq hbq hxq hs3q;go_upto_region 2 with fail
 refine wp_region_held_drew (S:=(fun w'=>w'.cell? ⟨bp,op+1,none⟩=some (.string s)/\w'.cell? ⟨bp,op+3,none⟩=some (.slice (some ⟨tb,tq,none⟩) 2 d))) (by kernel_rfl) (HX.out _ HB3d.out) (fun hHeld=>?_);refine Plan.start [0,1,2,3,4,6,7,8,9,10,11] ?_
 iterate 11 (refine Plan.tk (so rfl) hHeld ?_;try simp only[Act.put,Ax,Ay,Az])
 refine Plan.done ?_;refine wpAnyH_ready (rs:=[5]) (by kernel_rfl) (by simp) ?_;refine AllReadyH.cons (sd (some 26) rfl) (fun Kx hK=>?_) AllReadyH.nil;go_simp;rw[<-HWQ.out,<-HNQ2.out];refine hK.out _ _ (HX.out _ HBQ.out) (fun hHeld=>?_);clear hK Kx;try simp only[Act.put,Ax,Ay,Az]
 refine wpAnyH_ready (rs:=[12]) (by kernel_rfl) (by simp) ?_;refine AllReadyH.cons (sd (some 33) rfl) (fun Kx hK=>?_) AllReadyH.nil;go_simp;refine KW2.out.mono ?_;rintro e w4 ⟨rfl,hs4,hb4⟩;have HB4:Hid (ButG (fun x=>x=mb\/x=mf) w w4):=Hd (HBQ.out.trans hb4 fun x h=>.inl h);have HS4:Hid (SeS U w4 g mb mf c (fun x=>S x || (decide (c x=0) && (Bl x p0 || (!decide (s=x) && Bl x p1))))):=Hd (hs4.same (fun _=>rfl) fun x=>by
  dsimp only;rw[Lj,Lj,Jcs];have e:Cl [] x=false:=rfl;rw[e];generalize decide (c x=0)=d1;generalize Bl x p0=d2;generalize Bl x p1=d3;generalize decide (s=x)=d4
  cases S x <;> cases d1 <;> cases d2 <;> cases d3 <;> cases d4 <;> rfl)
 clear hs4 hb4 KW2;go_wp2_with fail;refine hK.out _ _ (HX.out _ HB4.out) (fun hHeld=>?_);clear hK Kx;try simp only[Act.put,Ax,Ay,Az]
 refine wpAnyH_done (by kernel_rfl) ?_ _;clear hHeld;go_wp2_with fail
 go_end0
 exact⟨rfl,HS4.out,HB4.out⟩
theorem R6 {s:ByteArray} {n:Int} {ps:List Ty} {fs:Bp} {vs:Bm} (hp:∀ p∈ps,Lz p):Lz (.mk 20 s n ps fs vs):=by
 intro K U g mb mf w bp op c S ha hbp hK hS hU hUl hc hfm hvs;obtain⟨A,d,A2,d2,A3,d3,HX,HP,HF,HV,HT⟩:=Px ha hbp hK;obtain⟨l1,l2,-,-⟩:=D8 hfm;have hpl:ps.length=2:=Ue hfm 2 rfl rfl;have e2:fs=[]:=List.eq_nil_of_length_eq_zero (l1 (by decide));have e3:vs=[]:=List.eq_nil_of_length_eq_zero (l2 (by decide));obtain⟨p0,p1,rfl⟩:=Je0 hpl;subst e2;subst e3;obtain⟨-,-,v3,-⟩:=E6 hvs;have hat0:=fun wx (hx:ButG (fun x=>x=mb\/x=mf) w wx)=>(HP.out wx hx).at (by simp);obtain⟨tb,tq,hA,hKb,-⟩:=hat0 w (ButG.refl _ _);subst hA;have hd:2<=d:=(HP.out w (ButG.refl _ _)).caps;have hrow:∀ wx,ButG (fun x=>x=mb\/x=mf) w wx->AtT K wx p0 tb tq/\AtT K wx p1 tb (tq+6):=fun wx hx=>by
  obtain⟨tb',tq',hA',-,hat⟩:=hat0 wx hx;injection hA' with hA'
  injection hA' with e1 e2
  subst e1;subst e2;exact⟨by simpa using hat 0 (by simp),by simpa using hat 1 (by simp)⟩
 have hcnt:Ai (Ty.mk 20 s n [p0,p1] [] [])=1+Ai p0+Ai p1:=by
  rw[Br,B6,B6,Gp];have e1:Bd []=0:=rfl;have e2:Be []=0:=rfl;rw[e1,e2];simp only[Nat.add_zero,Nat.add_assoc]
 have m0:p0∈[p0,p1]:=by simp
 have m1:p1∈[p0,p1]:=by simp
 have KC:=Hd (Jcb (c:=c) (fun wx hx=>⟨(HX.out wx hx).2.1,(HX.out wx hx).2.2.2.1⟩) (fun wx hx=>(hrow wx hx).1) (fun wx hx=>(hrow wx hx).2) hKb hd hK hS ⟨hU s G6,Nat.le_trans HT.out (by decide)⟩ (fun x hx=>hU x (G5 m0 hx)) (fun x hx=>hU x (G5 m1 hx)) hUl (fun x=>by
  rw[<-hcnt];exact hc x) ⟨Ci hfm p0 m0,v3 p0 m0⟩ ⟨Ci hfm p1 m1,v3 p1 m1⟩ (hp p0 m0) (hp p1 m1))
 obtain⟨x0,-,-,-,-,-⟩:=HX.out _ (ButG.refl _ _);clear ha hbp hK hS hU hUl hc hfm hvs l1 l2 hpl v3 hat0 hKb hd hrow m0 m1 hp;go_enter Tryz.func153,Tryz.ntmps153;go_wp2_with fail;refine KC.out.mono ?_;rintro e w3 ⟨rfl,hs3,hb3⟩;have HS3:Hid (SeS U w3 g mb mf c (fun x=>S x || (decide (c x=0) && Bl x (.mk 20 s n [p0,p1] [] [])))):=Hd (hs3.same (fun _=>rfl) fun x=>by rw[Su]);have HB3:=Hd hb3;clear hs3 hb3 KC x0;go_wp2_with fail;first
 | (go_end0;exact⟨rfl,HS3.out,HB3.out⟩)
 | exact bodyPost_ret (v:=.tuple #[]) (by simp[results,Tryz.results153,go_sem]) rfl ⟨rfl,HS3.out,HB3.out⟩
end Go.Proofs.YtlpfpehegddcfaaGreatDoor
