import Derived.Test.YtlpfpehegddcfaaGreatDoorMx23
import Derived.Test.YtlpfpehegddcfaaGreatDoorMx24
import Derived.Test.YtlpfpehegddcfaaGreatDoorMx25
import Derived.Test.YtlpfpehegddcfaaGreatDoorMx26
namespace Go.Proofs.YtlpfpehegddcfaaGreatDoor
set_option maxRecDepth 100000
set_option maxHeartbeats 64000000
open Go.RowKit
theorem Q7 (t:Z8) (n:Int) (ps:List Ty) (fs:Bx) (vs:Bt) (hp:∀p∈ps,Ae p) (hf:∀f∈fs,Ae f.2.2) (hv:∀v∈vs,∀b∈v.2,Ae b) (hA:fs.length=0) (hB:vs.length=0) (hC:ps.all Aj=true):Ae (.mk 15 t n ps fs vs):=by
 by_cases hD:t.toList=[]
 ·by_cases hE:n=0
  ·by_cases hF:2<=ps.length
   ·exact Y2 t n ps fs vs hp hf hv hA hB hC hD hE hF
   ·exact Y0 t n ps fs vs hp hf hv hA hB hC hD hE hF
  ·exact Yz t n ps fs vs hp hf hv hA hB hC hD hE
 ·obtain⟨a0,l0,h⟩:=List.exists_cons_of_ne_nil hD;exact Y1 t n ps fs vs hp hf hv hA hB hC a0 l0 h
theorem S4 (k:Int) (hk:k=1\/k=2\/k=3\/k=4\/k=5\/k=6\/k=7\/k=8) (t:Z8) (n:Int) (ps:List Ty) (fs:Bx) (vs:Bt) (hp:∀p∈ps,Ae p) (hf:∀f∈fs,Ae f.2.2) (hv:∀v∈vs,∀b∈v.2,Ae b) (hA:fs.length=0) (hB:vs.length=0) (hC:ps.all Aj=true):Ae (.mk k t n ps fs vs):=by
 by_cases hD:t.toList=[]
 ·by_cases hE:n=0
  ·by_cases hF:ps.length=0
   ·exact Jbw k hk t n ps fs vs hp hf hv hA hB hC hD hE hF
   ·exact Jbu k hk t n ps fs vs hp hf hv hA hB hC hD hE hF
  ·exact Jbt k hk t n ps fs vs hp hf hv hA hB hC hD hE
 ·obtain⟨a0,l0,h⟩:=List.exists_cons_of_ne_nil hD;exact Jbv k hk t n ps fs vs hp hf hv hA hB hC a0 l0 h
theorem S3 (t:Z8) (n:Int) (ps:List Ty) (fs:Bx) (vs:Bt) (hp:∀p∈ps,Ae p) (hf:∀f∈fs,Ae f.2.2) (hv:∀v∈vs,∀b∈v.2,Ae b) (hA:fs.length=0) (hB:vs.length=0) (hC:ps.all Aj=true):Ae (.mk 9 t n ps fs vs):=by
 by_cases hD:t.toList=[]
 ·by_cases hE:0<=n
  ·by_cases hF:ps.length=0
   ·exact Jbs t n ps fs vs hp hf hv hA hB hC hD hE hF
   ·exact Jbq t n ps fs vs hp hf hv hA hB hC hD hE hF
  ·exact Jbp t n ps fs vs hp hf hv hA hB hC hD hE
 ·obtain⟨a0,l0,h⟩:=List.exists_cons_of_ne_nil hD;exact Jbr t n ps fs vs hp hf hv hA hB hC a0 l0 h
theorem Qx (t:Z8) (n:Int) (ps:List Ty) (fs:Bx) (vs:Bt) (hp:∀p∈ps,Ae p) (hf:∀f∈fs,Ae f.2.2) (hv:∀v∈vs,∀b∈v.2,Ae b) (hB:fs.length=0) (hC:vs.length=0) (hD:ps.all Aj=true):Ae (.mk 10 t n ps fs vs):=by
 by_cases hA:n=0
 ·by_cases hE:ps.length=0
  ·exact Yp t n ps fs vs hp hf hv hB hC hD hA hE
  ·exact Yo t n ps fs vs hp hf hv hB hC hD hA hE
 ·exact Yn t n ps fs vs hp hf hv hB hC hD hA
theorem Qy (t:Z8) (n:Int) (ps:List Ty) (fs:Bx) (vs:Bt) (hp:∀p∈ps,Ae p) (hf:∀f∈fs,Ae f.2.2) (hv:∀v∈vs,∀b∈v.2,Ae b) (hA:fs.length=0) (hB:vs.length=0) (hC:ps.all Aj=true):Ae (.mk 11 t n ps fs vs):=by
 by_cases hD:t.toList=[]
 ·by_cases hE:n=0
  ·by_cases hF:ps.length=1
   ·exact Uv 11 (by omega) t n ps fs vs hp hf hv hA hB hC hD hE hF
   ·exact Ut 11 (by omega) t n ps fs vs hp hf hv hA hB hC hD hE hF
  ·exact Us 11 (by omega) t n ps fs vs hp hf hv hA hB hC hD hE
 ·obtain⟨a0,l0,h⟩:=List.exists_cons_of_ne_nil hD;exact Uu 11 (by omega) t n ps fs vs hp hf hv hA hB hC a0 l0 h
theorem Qz (t:Z8) (n:Int) (ps:List Ty) (fs:Bx) (vs:Bt) (hp:∀p∈ps,Ae p) (hf:∀f∈fs,Ae f.2.2) (hv:∀v∈vs,∀b∈v.2,Ae b) (hA:fs.length=0) (hB:vs.length=0) (hC:ps.all Aj=true):Ae (.mk 12 t n ps fs vs):=by
 by_cases hD:t.toList=[]
 ·by_cases hE:n=0
  ·exact Ys t n ps fs vs hp hf hv hA hB hC hD hE
  ·exact Yq t n ps fs vs hp hf hv hA hB hC hD hE
 ·obtain⟨a0,l0,h⟩:=List.exists_cons_of_ne_nil hD;exact Yr t n ps fs vs hp hf hv hA hB hC a0 l0 h
theorem Q5 (t:Z8) (n:Int) (ps:List Ty) (fs:Bx) (vs:Bt) (hp:∀p∈ps,Ae p) (hf:∀f∈fs,Ae f.2.2) (hv:∀v∈vs,∀b∈v.2,Ae b) (hA:fs.length=0) (hB:ps.all Aj=true):Ae (.mk 13 t n ps fs vs):=by
 by_cases hC:t.toList=[]
 ·by_cases hD:n=0
  ·by_cases hE:1<=ps.length
   ·cases hq:Eo (Dj vs Aj) with
    | false=>exact Wf t n ps fs vs hp hf hv hA hB hC hD hE hq
    | true=>exact Wg t n ps fs vs hp hf hv hA hB hC hD hE hq
   ·exact Yu t n ps fs vs hp hf hv hA hB hC hD hE
  ·exact Yt t n ps fs vs hp hf hv hA hB hC hD
 ·obtain⟨a0,l0,h⟩:=List.exists_cons_of_ne_nil hC;exact Yv t n ps fs vs hp hf hv hA hB a0 l0 h
theorem Q6 (t:Z8) (n:Int) (ps:List Ty) (fs:Bx) (vs:Bt) (hp:∀p∈ps,Ae p) (hf:∀f∈fs,Ae f.2.2) (hv:∀v∈vs,∀b∈v.2,Ae b) (hA:vs.length=0) (hB:ps.all Aj=true):Ae (.mk 14 t n ps fs vs):=by
 by_cases hC:t.toList=[]
 ·by_cases hD:n=0
  ·by_cases hE:ps.length=0
   ·cases hq:Co (Bq fs Aj) with
    | false=>exact Wh t n ps fs vs hp hf hv hA hB hC hD hE hq
    | true=>exact Wi t n ps fs vs hp hf hv hA hB hC hD hE hq
   ·exact Yx t n ps fs vs hp hf hv hA hB hC hD hE
  ·exact Yw t n ps fs vs hp hf hv hA hB hC hD
 ·obtain⟨a0,l0,h⟩:=List.exists_cons_of_ne_nil hC;exact Yy t n ps fs vs hp hf hv hA hB a0 l0 h
theorem Q8 (t:Z8) (n:Int) (ps:List Ty) (fs:Bx) (vs:Bt) (hp:∀p∈ps,Ae p) (hf:∀f∈fs,Ae f.2.2) (hv:∀v∈vs,∀b∈v.2,Ae b) (hA:fs.length=0) (hC:vs.length=0) (hD:ps.all Aj=true):Ae (.mk 16 t n ps fs vs):=by
 cases hB:B6 t with
 | false=>exact Uo 16 (by omega) t n ps fs vs hp hf hv hA hC hD hB
 | true=>
  by_cases hE:n=0
  ·by_cases hF:ps.length=0
   ·exact Ur 16 (by omega) t n ps fs vs hp hf hv hA hC hD hB hE hF
   ·exact Uq 16 (by omega) t n ps fs vs hp hf hv hA hC hD hB hE hF
  ·exact Up 16 (by omega) t n ps fs vs hp hf hv hA hC hD hB hE
theorem Q9 (t:Z8) (n:Int) (ps:List Ty) (fs:Bx) (vs:Bt) (hp:∀p∈ps,Ae p) (hf:∀f∈fs,Ae f.2.2) (hv:∀v∈vs,∀b∈v.2,Ae b) (hA:fs.length=0) (hC:vs.length=0) (hD:ps.all Aj=true):Ae (.mk 17 t n ps fs vs):=by
 cases hB:B6 t with
 | false=>exact Y3 t n ps fs vs hp hf hv hA hC hD hB
 | true=>
  by_cases hE:n=0
  ·exact Y5 t n ps fs vs hp hf hv hA hC hD hB hE
  ·exact Y4 t n ps fs vs hp hf hv hA hC hD hB hE
theorem Ra (t:Z8) (n:Int) (ps:List Ty) (fs:Bx) (vs:Bt) (hp:∀p∈ps,Ae p) (hf:∀f∈fs,Ae f.2.2) (hv:∀v∈vs,∀b∈v.2,Ae b) (hA:fs.length=0) (hB:vs.length=0) (hC:ps.all Aj=true):Ae (.mk 18 t n ps fs vs):=by
 by_cases hD:t.toList=[]
 ·by_cases hE:n=0
  ·by_cases hF:ps.length=1
   ·exact Uv 18 (by omega) t n ps fs vs hp hf hv hA hB hC hD hE hF
   ·exact Ut 18 (by omega) t n ps fs vs hp hf hv hA hB hC hD hE hF
  ·exact Us 18 (by omega) t n ps fs vs hp hf hv hA hB hC hD hE
 ·obtain⟨a0,l0,h⟩:=List.exists_cons_of_ne_nil hD;exact Uu 18 (by omega) t n ps fs vs hp hf hv hA hB hC a0 l0 h
theorem Rb (t:Z8) (n:Int) (ps:List Ty) (fs:Bx) (vs:Bt) (hp:∀p∈ps,Ae p) (hf:∀f∈fs,Ae f.2.2) (hv:∀v∈vs,∀b∈v.2,Ae b) (hA:fs.length=0) (hB:vs.length=0) (hC:ps.all Aj=true):Ae (.mk 19 t n ps fs vs):=by
 by_cases hD:t.toList=[]
 ·by_cases hE:n=0
  ·by_cases hF:ps.length=2
   ·exact Y9 t n ps fs vs hp hf hv hA hB hC hD hE hF
   ·exact Y7 t n ps fs vs hp hf hv hA hB hC hD hE hF
  ·exact Y6 t n ps fs vs hp hf hv hA hB hC hD hE
 ·obtain⟨a0,l0,h⟩:=List.exists_cons_of_ne_nil hD;exact Y8 t n ps fs vs hp hf hv hA hB hC a0 l0 h
theorem Rc (t:Z8) (n:Int) (ps:List Ty) (fs:Bx) (vs:Bt) (hp:∀p∈ps,Ae p) (hf:∀f∈fs,Ae f.2.2) (hv:∀v∈vs,∀b∈v.2,Ae b) (hA:fs.length=0) (hC:vs.length=0) (hD:ps.all Aj=true):Ae (.mk 20 t n ps fs vs):=by
 cases hB:B6 t with
 | false=>exact Za t n ps fs vs hp hf hv hA hC hD hB
 | true=>
  by_cases hE:0<=n
  ·by_cases hF:n<=3
   ·by_cases hG:ps.length=2
    ·exact Ze t n ps fs vs hp hf hv hA hC hD hB hE hF hG
    ·exact Zd t n ps fs vs hp hf hv hA hC hD hB hE hF hG
   ·exact Zc t n ps fs vs hp hf hv hA hC hD hB hE hF
  ·exact Zb t n ps fs vs hp hf hv hA hC hD hB hE
theorem Rd (t:Z8) (n:Int) (ps:List Ty) (fs:Bx) (vs:Bt) (hp:∀p∈ps,Ae p) (hf:∀f∈fs,Ae f.2.2) (hv:∀v∈vs,∀b∈v.2,Ae b) (hA:fs.length=0) (hC:vs.length=0) (hD:ps.all Aj=true):Ae (.mk 21 t n ps fs vs):=by
 by_cases hB:ps.length=4
 ·by_cases hE:n=0
  ·by_cases hH:t.toList=[]
   ·exact Zf t n ps fs vs hp hf hv hA hC hD hB hE hH
   ·obtain⟨a0,l0,h⟩:=List.exists_cons_of_ne_nil hH;exact Zg t n ps fs vs hp hf hv hA hC hD hB hE a0 l0 h
  ·by_cases hF:n=1
   ·cases hG:B6 t with
    | false=>exact Wj t n ps fs vs hp hf hv hA hC hD hB hE hF hG
    | true=>exact Wl t n ps fs vs hp hf hv hA hC hD hB hE hF hG
   ·exact Zh t n ps fs vs hp hf hv hA hC hD hB hE hF
 ·exact Zi t n ps fs vs hp hf hv hA hC hD hB
theorem Re (t:Z8) (n:Int) (ps:List Ty) (fs:Bx) (vs:Bt) (hp:∀p∈ps,Ae p) (hf:∀f∈fs,Ae f.2.2) (hv:∀v∈vs,∀b∈v.2,Ae b) (hA:fs.length=0) (hC:vs.length=0) (hD:ps.all Aj=true):Ae (.mk 22 t n ps fs vs):=by
 cases hB:B6 t with
 | false=>exact Uo 22 (by omega) t n ps fs vs hp hf hv hA hC hD hB
 | true=>
  by_cases hE:n=0
  ·by_cases hF:ps.length=0
   ·exact Ur 22 (by omega) t n ps fs vs hp hf hv hA hC hD hB hE hF
   ·exact Uq 22 (by omega) t n ps fs vs hp hf hv hA hC hD hB hE hF
  ·exact Up 22 (by omega) t n ps fs vs hp hf hv hA hC hD hB hE
theorem Rf (t:Z8) (n:Int) (ps:List Ty) (fs:Bx) (vs:Bt) (hp:∀p∈ps,Ae p) (hf:∀f∈fs,Ae f.2.2) (hv:∀v∈vs,∀b∈v.2,Ae b) (hA:fs.length=0) (hB:vs.length=0) (hC:ps.all Aj=true):Ae (.mk 23 t n ps fs vs):=by
 by_cases hD:t.toList=[]
 ·by_cases hE:n=0
  ·by_cases hF:2<=ps.length
   ·cases hq:I1 ps with
    | false=>exact Wm t n ps fs vs hp hf hv hA hB hC hD hE hF hq
    | true=>exact Wn t n ps fs vs hp hf hv hA hB hC hD hE hF hq
   ·exact Zk t n ps fs vs hp hf hv hA hB hC hD hE hF
  ·exact Zj t n ps fs vs hp hf hv hA hB hC hD hE
 ·obtain⟨a0,l0,h⟩:=List.exists_cons_of_ne_nil hD;exact Zl t n ps fs vs hp hf hv hA hB hC a0 l0 h
theorem S6 (k:Int) (t:Z8) (n:Int) (ps:List Ty) (fs:Bx) (vs:Bt) (hp:∀p∈ps,Ae p) (hf:∀f∈fs,Ae f.2.2) (hv:∀v∈vs,∀b∈v.2,Ae b):Ae (.mk k t n ps fs vs):=by
 by_cases hD:k=14
 ·subst hD;by_cases hC:vs.length=0
  ·cases hA:ps.all Aj with
   | false=>exact Ws t n ps fs vs hp hf hv hC hA
   | true=>exact Q6 t n ps fs vs hp hf hv hC hA
  ·exact Wq t n ps fs vs hp hf hv (by omega)
 by_cases hB:fs.length=0
 ·by_cases hE:k=13
  ·subst hE
   cases hA:ps.all Aj with
   | false=>exact Wr t n ps fs vs hp hf hv hB hA
   | true=>exact Q5 t n ps fs vs hp hf hv hB hA
  by_cases hC:vs.length=0
  ·cases hA:ps.all Aj with
   | false=>exact Jb0 k t n ps fs vs hp hf hv hD hB hE hC hA
   | true=>
    by_cases hL:k=1\/k=2\/k=3\/k=4\/k=5\/k=6\/k=7\/k=8
    ·exact S4 k hL t n ps fs vs hp hf hv hB hC hA
    by_cases h9:k=9
    ·subst h9;exact S3 t n ps fs vs hp hf hv hB hC hA
    by_cases hF:k=10
    ·subst hF;exact Qx t n ps fs vs hp hf hv hB hC hA
    by_cases hG:k=11
    ·subst hG;exact Qy t n ps fs vs hp hf hv hB hC hA
    by_cases hH:k=12
    ·subst hH;exact Qz t n ps fs vs hp hf hv hB hC hA
    by_cases hI:k=15
    ·subst hI;exact Q7 t n ps fs vs hp hf hv hB hC hA
    by_cases hJ:k=16
    ·subst hJ;exact Q8 t n ps fs vs hp hf hv hB hC hA
    by_cases hK:k=17
    ·subst hK;exact Q9 t n ps fs vs hp hf hv hB hC hA
    by_cases hM:k=18
    ·subst hM;exact Ra t n ps fs vs hp hf hv hB hC hA
    by_cases hN:k=19
    ·subst hN;exact Rb t n ps fs vs hp hf hv hB hC hA
    by_cases hO:k=20
    ·subst hO;exact Rc t n ps fs vs hp hf hv hB hC hA
    by_cases hP:k=21
    ·subst hP;exact Rd t n ps fs vs hp hf hv hB hC hA
    by_cases hQ:k=22
    ·subst hQ;exact Re t n ps fs vs hp hf hv hB hC hA
    by_cases hR:k=23
    ·subst hR;exact Rf t n ps fs vs hp hf hv hB hC hA
    exact Jby k t n ps fs vs hp hf hv (by omega) (by omega) (by omega) (by omega) (by omega) (by omega) (by omega) (by omega) h9 hF hG hH hE hD hI hJ hK hM hN hO hP hQ hR hB hC hA
  ·exact Jbz k t n ps fs vs hp hf hv hD hB hE (by omega)
 ·exact Jbx k t n ps fs vs hp hf hv hD (by omega)
theorem Zo (t:Ty):Ae t:=Ty.ind (C:=Ae) (fun k t n ps fs vs hp hf hv=>S6 k t n ps fs vs hp hf hv) t
theorem Mm {K:Nat->Prop}{w:World}{t:Ty}{cs:List Value}(hr:Aw K w t cs) :
  Calls Tryz.prog 15 #[.agg cs.toArray] w fun e w'=>e=.returned (.bool (Ea t))/\Below w.heap.size w w':=by
 have hN:=Lv t;have hG:=Zo t;have hE:Ea t=(decide (Am t<=4096) && Aj t):=rfl;generalize hJ:Aj t=r at hE;obtain⟨k,s,n,ps,fs,vs⟩:=t;have KN:=Hd fun wx (hx:Below w.heap.size w wx)=>hN K wx cs (hr.later hx);have KF:=Hd fun wx (hx:Below w.heap.size w wx) h=>hG K wx cs (hr.later hx) h;obtain⟨A,c,A',c',A'',c'',rfl,-⟩:=hr.inv;simp only[Az]at KN KF ⊢;rw[hJ]at KF;obtain⟨w1,hA⟩:∃x,x=w.alloc (.cells #[.int .i64 k,.string s,.int .i64 n,.slice A ps.length c,.slice A' fs.length c',.slice A'' vs.length c''] 26):=⟨_,rfl⟩;have hH:Below w.heap.size w w1:=by rw[hA];exact (Below.refl _ _).alloc (Nat.le_refl _) _
 have hK:w1.heap.size=w.heap.size+1:=by rw[hA];simp
 have hL:w1.heap[w.heap.size]?=some (.cells #[.int .i64 k,.string s,.int .i64 n,.slice A ps.length c,.slice A' fs.length c',.slice A'' vs.length c''] 26 (0,0)):=by rw[hA];exact heap_alloc_new w _
 have hC:=Hd hH;have HS1:=Hd hK;have HX0:=Hd hL;have HW1:=Hd hA;have hD:=Hd hE;generalize Am (.mk k s n ps fs vs)=q at KN KF hD;clear hr hN hG hH hK hL hA hE hJ;go_enter Tryz.func15,Tryz.ntmps15;go_upto_region 1 with fail
 rw[<-HW1.o];obtain⟨x0,x1,x2,x3,x4,x5⟩:=D4 HX0.o;go_wp2_with fail;refine (KN.o _ hC.o).mono ?_;rintro e w2 ⟨rfl,hg⟩;have hB:=Hd (hC.o.trans (hg.below.mono hC.o.size));have h2:=Bj hg.below (by have:=HS1.o;omega) HX0.o;clear x0 x1 x2 x3 x4 x5 hg KN;obtain⟨x0,x1,x2,x3,x4,x5⟩:=D4 h2;clear h2;by_cases hq:q<=4096
 ·have t1:decide ((Cj q:Int)<=4096)=true:=decide_eq_true (by unfold Cj;omega);have t2:decide (Cj q<=4096)=true:=decide_eq_true (by unfold Cj;omega);have hF:=Hd (KF.o _ hB.o (by omega));have HV:Z9 (Ea (.mk k s n ps fs vs)=r):=Hd (by rw[hD.o,decide_eq_true hq];rfl);clear hq KF;go_wp2_with fail;refine hF.o.mono ?_;rintro e w3 ⟨rfl,hI⟩;have hM:=Hd (hB.o.trans (hI.mono hB.o.size));clear hI hF;go_wp2_with fail;go_ret
  exact⟨by rw[HV.o];rfl,hM.o⟩
 ·have t1:decide ((Cj q:Int)<=4096)=false:=decide_eq_false (by unfold Cj;omega);have t2:decide (Cj q<=4096)=false:=decide_eq_false (by unfold Cj;omega);have HV:Z9 (Ea (.mk k s n ps fs vs)=false):=Hd (by rw[hD.o,decide_eq_false hq];rfl);clear hq KF;go_wp2_with fail;go_ret
  exact⟨by rw[HV.o];rfl,hB.o⟩
theorem Jax {s:Z8}{n:Int}{ps:List Ty}{fs:Bx}{vs:Bt}:L6 (.mk 16 s n ps fs vs):=by
 intro K U g mb mf w bp op c S ha kH hK hS hU hX hc hZ kO;obtain⟨A,d,A2,d2,A3,d3,HX,HP,HF,HV,HT⟩:=P0 ha kH hK;obtain⟨l1,l2,-,-⟩:=D5 hZ;have hF:Z9 (ps.length=0):=Hd ((Pm (Dg hZ)).2.2 rfl);have hG:Z9 (fs.length=0):=Hd (l1 (by decide));have hJ:Z9 (vs.length=0):=Hd (l2 (by decide));have HK:=Hd hK;have kE:=Hd hX;have HC:=Hd hc;have kC:Z9 (∀x,Bp x (.mk 16 s n ps fs vs)=decide (s=x)):=Hd fun x=>by
  have e1:ps=[]:=List.eq_nil_of_length_eq_zero hF.o;have e2:fs=[]:=List.eq_nil_of_length_eq_zero hG.o;have e3:vs=[]:=List.eq_nil_of_length_eq_zero hJ.o;rw[Dq,e1,e2,e3];have e4:Gp x []=false:=rfl;have e5:Jc x []=false:=rfl;rw[e4,e5,Dn];simp
 have kA:s.size<=maxLen:=Nat.le_trans HT.o (by decide);obtain⟨v1,kB⟩:∃v1,v1=c s:=⟨_,rfl⟩;have hR:=hS.later (Below.refl w.heap.size w).drew;have hH:=hS.later (Below.refl w.heap.size w).drew.drew;have lk:(Instr.lookup 185 (.map (some mb)) (.string s) false).run Tryz.prog w.drew=.ok (.int .i64 (v1:Int)) w.drew:=by rw[kB];exact hR.look s kA
 have LK:=Hd lk;have hY:Ad (fun x=>x=mb\/x=mf) w w.drew:=Ad.of_below (Below.refl _ _).drew;have hQ:Ad (fun x=>x=mb\/x=mf) w w.drew.drew:=Ad.of_below (Below.refl _ _).drew.drew;have kJ:=Hd hY;have kP:=Hd hQ;have kD:Z9 (w.drew.cell? ⟨g,0,none⟩=some (.map (some mb))/\w.drew.cell? ⟨bp,op+1,none⟩=some (.string s)):=Hd ⟨hR.cell.1,(HX.o _ hY).2.1⟩;have hI:Z9 (w.drew.drew.cell? ⟨g,1,none⟩=some (.map (some mf))/\w.drew.drew.cell? ⟨bp,op+1,none⟩=some (.string s)):=Hd ⟨hH.cell.2,(HX.o _ hQ).2.1⟩;obtain⟨w4,hT,kI,kG⟩:=hH.add hX s (hU s Ij) kA;have kN:=Hd hT;have kL:Z9 (Fp U w4 g mb mf c (fun x=>decide (s=x) || S x)):=Hd kI;have kK:Z9 (Ad (fun x=>x=mb\/x=mf) w w4):=Hd (hQ.trans kG fun x h=>.inl (.inr h));have kM:Z9 (Fp U w.drew g mb mf c S):=Hd hR;obtain⟨x0,-,-,-,-,-⟩:=HX.o _ (Ad.refl _ _);have kF:=Hd kB;clear ha kH hK hS hU hX hc hZ kO l1 l2 kA hR hH lk hY hQ hT kI kG kB;go_enter Tryz.func153,Tryz.ntmps153;go_upto_region 2 with fail
 clear x0;refine wp_region_held_drew (S:=(fun w'=>w'.cell? ⟨g,0,none⟩=some (.map (some mb))/\w'.cell? ⟨bp,op+1,none⟩=some (.string s))) (by kernel_rfl) kD.o (fun hA=>?_);refine Ab.s [0,1,2,3,4,5,6,7] ?_
 iterate 8 (refine Ab.k (so rfl) hA ?_;try simp only[Act.put,Bd,Be,Bf])
 refine Ab.d ?_;have lk:=LK.o;refine wpAnyH_ready (rs:=[8]) (by kernel_rfl) (by simp) ?_;refine AllReadyH.cons (sd (some 23) rfl) (fun Kx hK=>?_) AllReadyH.nil;go_simp;clear lk;refine hK.out _ _ (kD.o) (fun hA=>?_);clear hK Kx;try simp only[Act.put,Bd,Be,Bf]
 refine Ab.s [9] ?_;refine Ab.k (so rfl) hA ?_;try simp only[Act.put,Bd,Be,Bf]
 refine Ab.d ?_;refine wpAnyH_done (by kernel_rfl) ?_ _;clear hA;by_cases h0:v1=0
 ·have t0:((v1:Int) == 0)=true:=by simp[h0]
  rw[t0];have hW:Z9 (∀x,((decide (s=x) || S x) || (decide (c x=0) && (!Dc [] x && Gy x ps)))=(S x || (decide (c x=0) && Bp x (.mk 16 s n ps fs vs)))):=Hd fun x=>by
   rw[kC.o];have e1:ps=[]:=List.eq_nil_of_length_eq_zero hF.o;have e2:Gy x ps=false:=by rw[e1];rfl
   rw[e2];by_cases e:s=x
   ·subst e;have:c s=0:=by rw[<-kF.o];exact h0
    simp[this]
   ·simp[e]
  clear h0 t0;go_upto_region 3 with fail
  refine wp_region_held_drew (S:=(fun w'=>w'.cell? ⟨g,1,none⟩=some (.map (some mf))/\w'.cell? ⟨bp,op+1,none⟩=some (.string s))) (by kernel_rfl) hI.o (fun hA=>?_);refine Ab.s [0,1,2,3,4,5,6,7,8] ?_
  iterate 9 (refine Ab.k (so rfl) hA ?_;try simp only[Act.put,Bd,Be,Bf])
  refine Ab.d ?_;have hT:=kN.o;refine wpAnyH_ready (rs:=[9]) (by kernel_rfl) (by simp) ?_;refine AllReadyH.cons (sd none rfl) (fun Kx hK=>?_) AllReadyH.nil;go_simp;clear hT;obtain⟨wX,hD⟩:∃x,x=w4:=⟨_,rfl⟩;have hP:Z9 (Fp U wX g mb mf c (fun x=>decide (s=x) || S x)):=Hd (by rw[hD];exact kL.o);have hC:Z9 (Ad (fun x=>x=mb\/x=mf) w wX):=Hd (by rw[hD];exact kK.o);rw[<-hD];clear hD;refine hK.out _ _ (⟨hP.o.cell.2,(HX.o _ hC.o).2.1⟩) (fun hA=>?_);clear hK Kx;try simp only[Act.put,Bd,Be,Bf]
  refine wpAnyH_done (by kernel_rfl) ?_ _;clear hA;have hL:=Ep (N:=[]) (AN:=none) (cN:=0) (B:=9000000000000000000) (K:=K) ⟨0,0,fun h=>absurd h (by simp),by simp,fun i hi=>absurd hi (by simp)⟩ (fun b o e=>by cases e) (HP.o wX hC.o) (fun x hx=>⟨Nat.lt_of_lt_of_le (HK.o x hx).1 hC.o.size,(HK.o x hx).2⟩) hP.o (fun x hx=>absurd hx (by simp)) kE.o (fun x=>by have h1:=HC.o x;simp only[cI,List.countP_nil];omega) (Nat.le_refl _) (fun p hp=>absurd (List.length_pos_of_mem hp) (by have:=hF.o;omega)) (fun p hp=>absurd (List.length_pos_of_mem hp) (by have:=hF.o;omega));have KW:Z9 (Calls Tryz.prog 187 #[.pointer (some ⟨g,0,none⟩),.slice none 0 0,.slice A ps.length d] wX (I2 U g mb mf wX c _ _)):=Hd hL;obtain⟨x0,-,-,x3,-,-⟩:=HX.o _ hC.o;clear hL;go_wp2_with fail;refine KW.o.mono ?_;rintro e w3 ⟨rfl,hO,hM⟩;have hI:=Hd hO;have hE:Z9 (Ad (fun x=>x=mb\/x=mf) w w3):=Hd (hC.o.trans hM fun x h=>.inl h);clear hO hM KW x0 x3;obtain⟨-,-,-,-,-,x5⟩:=HX.o _ hE.o;go_wp2_with fail;clear x5
  go_loopw [76] (fun v wr=>(∃i:Nat,v=.int .i64 i)/\wr=w3) (fun _ _=>0)
  case atStart=>exact⟨⟨0,rfl⟩,rfl⟩
  case round=>
   obtain⟨⟨i,rfl⟩,hB⟩:=hrel;obtain rfl:w3=wr:=hB.symm;clear hB;have t1:decide ((i:Int)<(vs.length:Int))=false:=by have:=hJ.o;simp;omega
   have hN:¬ i<vs.length:=by have:=hJ.o;omega
   obtain⟨-,-,-,-,x4,-⟩:=HX.o _ hE.o;go_wp2_with fail;clear x4 t1 hN
   go_loopw [96] (fun v wr=>(∃i:Nat,v=.int .i64 i)/\wr=w3) (fun _ _=>0)
   case atStart=>exact⟨⟨0,rfl⟩,rfl⟩
   case round=>
    obtain⟨⟨i,rfl⟩,hB⟩:=hrel;obtain rfl:w3=wr:=hB.symm;clear hB;have t1:decide ((i:Int)<(fs.length:Int))=false:=(by have:=hG.o;simp;omega);have hN:¬ i<fs.length:=(by have:=hG.o;omega);have hV:=Hd (hI.o.same (fun _=>rfl) hW.o);clear t1;have t1:decide ((i:Int)<(fs.length:Int))=false:=(by have:=hG.o;simp;omega);go_wp2_with fail
    go_end0
    exact⟨rfl,hV.o,hE.o⟩
 ·have t0:((v1:Int) == 0)=false:=by simp[h0]
  rw[t0];have hW:Z9 (∀x,(S x || (decide (c x=0) && (!Dc [] x && Gy x ps)))=(S x || (decide (c x=0) && Bp x (.mk 16 s n ps fs vs)))):=Hd fun x=>by
   rw[kC.o];have e1:ps=[]:=List.eq_nil_of_length_eq_zero hF.o;have e2:Gy x ps=false:=by rw[e1];rfl
   rw[e2];by_cases e:s=x
   ·subst e;have:¬ c s=0:=by rw[<-kF.o];exact h0
    simp[this]
   ·simp[e]
  clear h0 t0;obtain⟨wX,hD⟩:∃x,x=w.drew:=⟨_,rfl⟩;have hP:Z9 (Fp U wX g mb mf c S):=Hd (by rw[hD];exact kM.o);have hC:Z9 (Ad (fun x=>x=mb\/x=mf) w wX):=Hd (by rw[hD];exact kJ.o);rw[<-hD];clear hD;have hL:=Ep (N:=[]) (AN:=none) (cN:=0) (B:=9000000000000000000) (K:=K) ⟨0,0,fun h=>absurd h (by simp),by simp,fun i hi=>absurd hi (by simp)⟩ (fun b o e=>by cases e) (HP.o wX hC.o) (fun x hx=>⟨Nat.lt_of_lt_of_le (HK.o x hx).1 hC.o.size,(HK.o x hx).2⟩) hP.o (fun x hx=>absurd hx (by simp)) kE.o (fun x=>by have h1:=HC.o x;simp only[cI,List.countP_nil];omega) (Nat.le_refl _) (fun p hp=>absurd (List.length_pos_of_mem hp) (by have:=hF.o;omega)) (fun p hp=>absurd (List.length_pos_of_mem hp) (by have:=hF.o;omega));have KW:Z9 (Calls Tryz.prog 187 #[.pointer (some ⟨g,0,none⟩),.slice none 0 0,.slice A ps.length d] wX (I2 U g mb mf wX c _ _)):=Hd hL;obtain⟨x0,-,-,x3,-,-⟩:=HX.o _ hC.o;clear hL;go_wp2_with fail;refine KW.o.mono ?_;rintro e w3 ⟨rfl,hO,hM⟩;have hI:=Hd hO;have hE:Z9 (Ad (fun x=>x=mb\/x=mf) w w3):=Hd (hC.o.trans hM fun x h=>.inl h);clear hO hM KW x0 x3;obtain⟨-,-,-,-,-,x5⟩:=HX.o _ hE.o;go_wp2_with fail;clear x5
  go_loopw [76] (fun v wr=>(∃i:Nat,v=.int .i64 i)/\wr=w3) (fun _ _=>0)
  case atStart=>exact⟨⟨0,rfl⟩,rfl⟩
  case round=>
   obtain⟨⟨i,rfl⟩,hB⟩:=hrel;obtain rfl:w3=wr:=hB.symm;clear hB;have t1:decide ((i:Int)<(vs.length:Int))=false:=by have:=hJ.o;simp;omega
   have hN:¬ i<vs.length:=by have:=hJ.o;omega
   obtain⟨-,-,-,-,x4,-⟩:=HX.o _ hE.o;go_wp2_with fail;clear x4 t1 hN
   go_loopw [96] (fun v wr=>(∃i:Nat,v=.int .i64 i)/\wr=w3) (fun _ _=>0)
   case atStart=>exact⟨⟨0,rfl⟩,rfl⟩
   case round=>
    obtain⟨⟨i,rfl⟩,hB⟩:=hrel;obtain rfl:w3=wr:=hB.symm;clear hB;have t1:decide ((i:Int)<(fs.length:Int))=false:=(by have:=hG.o;simp;omega);have hN:¬ i<fs.length:=(by have:=hG.o;omega);have hV:=Hd (hI.o.same (fun _=>rfl) hW.o);clear t1;have t1:decide ((i:Int)<(fs.length:Int))=false:=(by have:=hG.o;simp;omega);go_wp2_with fail
    go_end0
    exact⟨rfl,hV.o,hE.o⟩
theorem Lp {k:Int}{s:Z8}{n:Int}{ps:List Ty}{fs:Bx}{vs:Bt}(h:Aj (.mk k s n ps fs vs)=true) (m:Nat) (h1:(Ak k).lo=(m:Int)) (h2:(Ak k).hi=(m:Int)):ps.length=m:=by
 have hf:=Dg h;unfold Ao at hf;rw[h1,h2]at hf;simp only[Bool.and_eq_true,decide_eq_true_eq,Bool.or_eq_true,beq_iff_eq]at hf;omega
theorem Jdx {α:Type}:∀ {l:List α},l.length=2->∃a b,l=[a,b]
 | [a,b],_=>⟨a,b,rfl⟩
theorem Jb1 {α:Type}:∀ {l:List α},l.length=4->∃a b c d,l=[a,b,c,d]
 | [a,b,c,d],_=>⟨a,b,c,d,rfl⟩
theorem Bk.caps {K:Nat->Prop}{w:World}{l:List Ty}{A:Option Addr}{c:Nat}(h:Bk K w l A c):l.length<=c:=by
 obtain⟨b,o,h1,-⟩:=h;exact h1.le
theorem Bk.one {K:Nat->Prop}{w:World}{p:Ty}{b o c:Nat}(h:De K w p b o) (hb:K b) (hc:1<=c):Bk K w [p] (some ⟨b,o,none⟩) c:=
 ⟨b,o,⟨hc,(by decide:1<=1000000000000000),(fun h=>by cases h),fun _=>⟨rfl,hb⟩⟩,fun i hi=>by
  have:i=0:=by simpa using hi
  subst this;simpa using h⟩
theorem ζ {w:World}{nq:Nat}{s:Z8}(h:w.heap[nq]?=some (.cells #[.string s] 9 (0,0))):Cg w [s] (some ⟨nq,0,none⟩):=
 ⟨nq,0,fun _=>rfl,by simp,fun i hi=>by
  have:i=0:=by simpa using hi
  subst this;rw[Ch h];rfl⟩
theorem Ξ (w:World):Cg w [] none:=⟨0,0,fun h=>absurd h (by simp),by simp,fun i hi=>absurd hi (by simp)⟩
theorem Lr (x:Z8) (p:Ty):Gy x [p]=Bp x p:=by unfold Gy;simp
theorem Jb2 (x s:Z8):Dc [s] x=decide (s=x):=by unfold Dc;simp
theorem S7 (x s:Z8) (n:Int) (p0 p1:Ty):Bp x (.mk 20 s n [p0,p1] [] [])=(Bp x p0 || (!decide (s=x) && Bp x p1)):=by
 rw[Dq];have e1:Gp x []=false:=rfl;have e2:Jc x []=false:=rfl;have e3:E9 [] x=false:=rfl;rw[e1,e2,e3,Dn,Dn,Dn];simp[Cz]
theorem Jbl {K:Nat->Prop}{U:List Z8}{g mb mf:Nat}{w:World}{bp op tb tq d:Nat}{c:Z8->Nat}{S:Z8->Bool}{s:Z8}{p0 p1:Ty}(hX:∀wx,Ad (fun x=>x=mb\/x=mf) w wx->wx.cell? ⟨bp,op+1,none⟩=some (.string s)/\wx.cell? ⟨bp,op+3,none⟩=some (.slice (some ⟨tb,tq,none⟩) 2 d)) (h0:∀wx,Ad (fun x=>x=mb\/x=mf) w wx->De K wx p0 tb tq) (h1:∀wx,Ad (fun x=>x=mb\/x=mf) w wx->De K wx p1 tb (tq+6)) (hL:K tb) (hd:2<=d)
  (hK:∀x,K x->x<w.heap.size/\x≠mb/\x≠mf) (hS:Fp U w g mb mf c S) (hs:s∈U/\s.size<=maxLen) (hQ:∀x∈Ed p0,x∈U) (hR:∀x∈Ed p1,x∈U) (hM:U.length<maxLen) (hc:∀x,c x+(1+Am p0+Am p1)*1000000000000002<=9000000000000000000) (hU:Aj p0=true/\Dk p0=true) (hV:Aj p1=true/\Dk p1=true) (i0:L6 p0) (i1:L6 p1) :
  Calls Tryz.prog 185 #[.pointer (some ⟨g,0,none⟩),.pointer (some ⟨bp,op,none⟩),.int .i64 1] w (I2 U g mb mf w c S fun x=>Bp x p0 || (!decide (s=x) && Bp x p1)):=by
 have HX:=Hd hX;have HK:=Hd hK;have kH:=Hd hM;have kG:=Hd hs;have kD:=Hd hS.lt;have kC:=Hd hL;have kA:=Hd h1;have HD:=Hd hd;have hD:Z9 (∀x,c x+1<=9000000000000000000 - (Am p0+Am p1)*1000000000000002/\(Am p0+Am p1)*1000000000000002<=9000000000000000000):=Hd fun x=>by
  have h:=hc x;rw[Nat.add_mul,Nat.add_mul]at h;rw[Nat.add_mul];omega
 have hJ:=Hd (And.intro hR (And.intro hV i1));have KW:=Hd (Ep (N:=[]) (AN:=none) (cN:=0) (ps:=[p0]) (B:=9000000000000000000 - (Am p0+Am p1)*1000000000000002) (Ξ w) (fun b o e=>by cases e) (Bk.one (c:=d) (h0 w (Ad.refl _ _)) hL (by omega)) hK hS (fun x hx=>absurd hx (by simp)) hM (fun x=>by have h:=hD.o x;simp only[cI,List.countP_nil];omega) (Nat.sub_le _ _) (fun p hp=>by
  obtain rfl:p=p0:=by simpa using hp
  refine⟨hQ,hU,?_⟩;have h:=(hD.o s).2;rw[Nat.add_mul]at h ⊢;omega) (fun p hp=>by obtain rfl:p=p0:=(by simpa using hp);exact i0))
 have j1:(1:Int)<=2:=by decide
 have kJ:min (1:Int) 2=1:=by decide
 have kL:¬ d=1:=by omega
 have j2:(2:Int)<=(d:Int):=by omega
 have j3:(1:Int)<=(d:Int):=by omega
 obtain⟨-,x3⟩:=hX w (Ad.refl _ _);clear hX h0 h1 hL hd hK hS hs hQ hR hM hc hU hV i0 i1;go_enter Tryz.func185,Tryz.ntmps185;go_wp2_with fail;refine KW.o.mono ?_;rintro e w3 ⟨rfl,hW,hB⟩;have kK:=Hd hB;have hH:=Hd (hB.then (Below.refl w3.heap.size w3).drew);obtain⟨nq,hN⟩:∃x,x=w3.heap.size:=⟨_,rfl⟩;obtain⟨wq,hG⟩:∃x,x=(w3.alloc (.cells #[.string s] 9)).drew:=⟨_,rfl⟩;have hF:Below w3.heap.size w3 wq:=by rw[hG];exact ((Below.refl w3.heap.size w3).alloc (Nat.le_refl _) _).drew
 have hZ:wq.heap[nq]?=some (.cells #[.string s] 9 (0,0)):=by rw[hG,hN];exact heap_alloc_new w3 _
 have hE:=Hd (hB.then hF);have kB:=Hd hF;have kE:Z9 (nq≠mb/\nq≠mf):=Hd (by have h1:=kD.o;have h2:=hB.size;omega);have hC:=hW.later hF;have hP:=Hd (Ep (N:=[s]) (AN:=some ⟨nq,0,none⟩) (cN:=1) (ps:=[p1]) (B:=9000000000000000000 - (Am p0+Am p1)*1000000000000002) (ζ hZ) (fun b o e=>by injection e with e;injection e with e;subst e;exact kE.o) (Bk.one (c:=d - 1) (kA.o wq hE.o) kC.o (by have:=HD.o;omega)) (fun x hx=>⟨Nat.lt_of_lt_of_le (HK.o x hx).1 hE.o.size,(HK.o x hx).2⟩) hC (fun x hx=>by obtain rfl:x=s:=(by simpa using hx);exact kG.o) kH.o (fun x=>by have h:=hD.o x;have h2:=Uj [s] x;simp only[List.length_singleton]at h2;omega) (Nat.sub_le _ _) (fun p hp=>by
  obtain rfl:p=p1:=by simpa using hp
  refine⟨hJ.o.1,hJ.o.2.1,?_⟩;have h:=(hD.o s).2;rw[Nat.add_mul]at h ⊢;omega) (fun p hp=>by obtain rfl:p=p1:=(by simpa using hp);exact hJ.o.2.2))
 have kI:=Hd hG;have hI:=Hd hN;clear hW hB KW x3 hN hG hF hZ hC;go_upto_region 2 with fail
 refine wp_region_held_drew (S:=(fun w'=>w'.cell? ⟨bp,op+1,none⟩=some (.string s)/\w'.cell? ⟨bp,op+3,none⟩=some (.slice (some ⟨tb,tq,none⟩) 2 d))) (by kernel_rfl) (HX.o _ hH.o) (fun hA=>?_);refine Ab.s [0,1,2,3,4,6,7,8,9,10,11] ?_
 iterate 11 (refine Ab.k (so rfl) hA ?_;try simp only[Act.put,Bd,Be,Bf])
 refine Ab.d ?_;refine wpAnyH_ready (rs:=[5]) (by kernel_rfl) (by simp) ?_;refine AllReadyH.cons (sd (some 26) rfl) (fun Kx hK=>?_) AllReadyH.nil;go_simp;rw[<-kI.o,<-hI.o];refine hK.out _ _ (HX.o _ hE.o) (fun hA=>?_);clear hK Kx;try simp only[Act.put,Bd,Be,Bf]
 refine wpAnyH_ready (rs:=[12]) (by kernel_rfl) (by simp) ?_;refine AllReadyH.cons (sd (some 33) rfl) (fun Kx hK=>?_) AllReadyH.nil;go_simp;refine hP.o.mono ?_;rintro e w4 ⟨rfl,hY,hT⟩;have hO:Z9 (Ad (fun x=>x=mb\/x=mf) w w4):=Hd (hE.o.trans hT fun x h=>.inl h);have kF:Z9 (Fp U w4 g mb mf c (fun x=>S x || (decide (c x=0) && (Bp x p0 || (!decide (s=x) && Bp x p1))))):=Hd (hY.same (fun _=>rfl) fun x=>by
  dsimp only;rw[Lr,Lr,Jb2];have e:Dc [] x=false:=rfl;rw[e];generalize decide (c x=0)=d1;generalize Bp x p0=d2;generalize Bp x p1=d3;generalize decide (s=x)=d4
  cases S x <;> cases d1 <;> cases d2 <;> cases d3 <;> cases d4 <;> rfl)
 clear hY hT hP;go_wp2_with fail;refine hK.out _ _ (HX.o _ hO.o) (fun hA=>?_);clear hK Kx;try simp only[Act.put,Bd,Be,Bf]
 refine wpAnyH_done (by kernel_rfl) ?_ _;clear hA;go_wp2_with fail
 go_end0
 exact⟨rfl,kF.o,hO.o⟩
theorem Si {s:Z8}{n:Int}{ps:List Ty}{fs:Bx}{vs:Bt}(hp:∀p∈ps,L6 p):L6 (.mk 20 s n ps fs vs):=by
 intro K U g mb mf w bp op c S ha hM hK hS hU hI hc hD hP;obtain⟨A,d,A2,d2,A3,d3,HX,HP,HF,HV,HT⟩:=P0 ha hM hK;obtain⟨l1,l2,-,-⟩:=D5 hD;have hN:ps.length=2:=Lp hD 2 rfl rfl;have e2:fs=[]:=List.eq_nil_of_length_eq_zero (l1 (by decide));have e3:vs=[]:=List.eq_nil_of_length_eq_zero (l2 (by decide));obtain⟨p0,p1,rfl⟩:=Jdx hN;subst e2;subst e3;obtain⟨-,-,v3,-⟩:=Fz hP;have hB:=fun wx (hx:Ad (fun x=>x=mb\/x=mf) w wx)=>(HP.o wx hx).at (by simp);obtain⟨tb,tq,hA,hH,-⟩:=hB w (Ad.refl _ _);subst hA;have hd:2<=d:=(HP.o w (Ad.refl _ _)).caps;have hC:∀wx,Ad (fun x=>x=mb\/x=mf) w wx->De K wx p0 tb tq/\De K wx p1 tb (tq+6):=fun wx hx=>by
  obtain⟨tb',tq',hA',-,hJ⟩:=hB wx hx;injection hA' with hA'
  injection hA' with e1 e2
  subst e1;subst e2;exact⟨by simpa using hJ 0 (by simp),by simpa using hJ 1 (by simp)⟩
 have hE:Am (Ty.mk 20 s n [p0,p1] [] [])=1+Am p0+Am p1:=by
  rw[Bu,Cl,Cl,G2];have e1:Bm []=0:=rfl;have e2:Bl []=0:=rfl;rw[e1,e2];simp only[Nat.add_zero,Nat.add_assoc]
 have m0:p0∈[p0,p1]:=by simp
 have m1:p1∈[p0,p1]:=by simp
 have KC:=Hd (Jbl (c:=c) (fun wx hx=>⟨(HX.o wx hx).2.1,(HX.o wx hx).2.2.2.1⟩) (fun wx hx=>(hC wx hx).1) (fun wx hx=>(hC wx hx).2) hH hd hK hS ⟨hU s Ij,Nat.le_trans HT.o (by decide)⟩ (fun x hx=>hU x (Jk m0 hx)) (fun x hx=>hU x (Jk m1 hx)) hI (fun x=>by
  rw[<-hE];exact hc x) ⟨D9 hD p0 m0,v3 p0 m0⟩ ⟨D9 hD p1 m1,v3 p1 m1⟩ (hp p0 m0) (hp p1 m1))
 obtain⟨x0,-,-,-,-,-⟩:=HX.o _ (Ad.refl _ _);clear ha hM hK hS hU hI hc hD hP l1 l2 hN v3 hB hH hd hC m0 m1 hp;go_enter Tryz.func153,Tryz.ntmps153;go_wp2_with fail;refine KC.o.mono ?_;rintro e w3 ⟨rfl,hO,hL⟩;have hG:Z9 (Fp U w3 g mb mf c (fun x=>S x || (decide (c x=0) && Bp x (.mk 20 s n [p0,p1] [] [])))):=Hd (hO.same (fun _=>rfl) fun x=>by rw[S7]);have hF:=Hd hL;clear hO hL KC x0;go_wp2_with fail;first
 | (go_end0;exact⟨rfl,hG.o,hF.o⟩)
 | exact bodyPost_ret (v:=.tuple #[]) (by simp[results,Tryz.results153,go_sem]) rfl ⟨rfl,hG.o,hF.o⟩
def Jh:Ty->List Z8
 | .mk k t _ ps fs vs=>(if k=16 then [t] else [])++((vs.attach.map fun ⟨v,_⟩=>(v.2.attach.map fun ⟨b,_⟩=>Jh b).flatten).flatten++((ps.attach.map fun ⟨p,_⟩=>Jh p).flatten++(fs.attach.map fun ⟨f,_⟩=>Jh f.2.2).flatten))
termination_by t=>SizeOf.sizeOf t
decreasing_by
 ·exact E2 ‹_› ‹_›
 ·exact D2 ‹_›
 ·exact Ei ‹_›
theorem Th (k t n ps fs vs):Jh (.mk k t n ps fs vs)=(if k=16 then [t] else [])++((vs.map fun v=>(v.2.map Jh).flatten).flatten++((ps.map Jh).flatten++(fs.map fun f=>Jh f.2.2).flatten)):=by
 rw[Jh];have h1:(ps.attach.map fun p=>Jh p.1).flatten=(ps.map Jh).flatten:=Db Jh ps;have h2:(fs.attach.map fun f=>Jh f.1.2.2).flatten=(fs.map fun f=>Jh f.2.2).flatten:=Db (fun f:Z8×Int×Ty=>Jh f.2.2) fs;have h3:(vs.attach.map fun v=>(v.1.2.attach.map fun b=>Jh b.1).flatten).flatten=(vs.map fun v=>(v.2.map Jh).flatten).flatten:=by
  have e:(fun v:{v // v∈vs}=>(v.1.2.attach.map fun b=>Jh b.1).flatten)=fun v:{v // v∈vs}=>(v.1.2.map Jh).flatten:=by
   funext v;exact Db Jh v.1.2
  rw[e];exact Db (fun v:Z8×List Ty=>(v.2.map Jh).flatten) vs
 rw[h1,h2,h3]
theorem Ga {α β:Type}{f:α->List β}{g:α->Nat}:∀ {l:List α},(∀a∈l,(f a).length<=g a)->(l.map f).flatten.length<=(l.map g).sum
 | [],_=>Nat.le_refl _
 | a :: l,h=>by
  rw[List.map_cons,List.flatten_cons,List.length_append,List.map_cons,List.sum_cons];exact Nat.add_le_add (h a List.mem_cons_self) (Ga fun b hb=>h b (List.mem_cons_of_mem _ hb))
theorem Jdr (t:Ty):(Jh t).length<=Am t:=by
 refine Ty.ind (C:=fun t=>(Jh t).length<=Am t) (fun k t n ps fs vs hp hf hv=>?_) t;rw[Th,Bu,List.length_append,List.length_append,List.length_append];have h1:(if k=16 then [t] else []).length<=1:=by split <;> simp
 have h2:((ps.map Jh).flatten).length<=Au ps:=Ga hp;have h3:((fs.map fun f=>Jh f.2.2).flatten).length<=Bm fs:=Ga hf;have h4:((vs.map fun v=>(v.2.map Jh).flatten).flatten).length<=Bl vs:=Ga fun v hA=>Ga (hv v hA);omega
theorem Rl (x:Z8) (t:Ty):Bp x t=true->x∈Jh t:=by
 refine Ty.ind (C:=fun t=>Bp x t=true->x∈Jh t) (fun k t n ps fs vs hp hf hv h=>?_) t;rw[Th];rw[Dq]at h;simp only[Bool.or_eq_true,Bool.and_eq_true]at h;have hD:∀(l:List Ty) (j:Nat) (cut:Nat->Bool),Dn x cut j l=true->∃p∈l,Bp x p=true:=by
  intro l
  induction l with
  | nil=>intro j cut h;rw[Dn]at h;cases h
  | cons a l ih=>
   intro j cut h;rw[Dn,Bool.or_eq_true,Bool.and_eq_true]at h;rcases h with h|h
   ·exact⟨a,List.mem_cons_self,h.2⟩
   ·obtain⟨p,h1,h2⟩:=ih _ _ h;exact⟨p,List.mem_cons_of_mem _ h1,h2⟩
 rcases h with h|⟨-,h|h|h⟩
 ·rw[beq_iff_eq,decide_eq_true_eq]at h;rw[if_pos h.1,h.2];exact List.mem_append_left _ (List.mem_singleton.2 rfl)
 ·refine List.mem_append_right _ (List.mem_append_left _ ?_);obtain⟨v,hC,h⟩:=List.any_eq_true.1 h;obtain⟨b,hb,h⟩:=List.any_eq_true.1 h;exact List.mem_flatten.2 ⟨_,List.mem_map_of_mem hC,List.mem_flatten.2 ⟨_,List.mem_map_of_mem hb,hv v hC b hb h⟩⟩
 ·refine List.mem_append_right _ (List.mem_append_right _ (List.mem_append_left _ ?_));obtain⟨p,hB,h⟩:=hD _ _ _ h;exact List.mem_flatten.2 ⟨_,List.mem_map_of_mem hB,hp p hB h⟩
 ·refine List.mem_append_right _ (List.mem_append_right _ (List.mem_append_right _ ?_));obtain⟨f,hA,h⟩:=List.any_eq_true.1 h;exact List.mem_flatten.2 ⟨_,List.mem_map_of_mem hA,hf f hA h⟩
theorem Jdj {N:Nat}(t:Ty):Dk t=true->Am t<=N->(Ed t).length<=Am t*(3518437208781+N):=by
 refine Ty.ind (C:=fun t=>Dk t=true->Am t<=N->(Ed t).length<=Am t*(3518437208781+N)) (fun k t n ps fs vs hp hf hv hA hN=>?_) t;obtain⟨v1,v2,v3,v4⟩:=Fz hA;have hm:Au ps<=N/\(∀p∈ps,Am p<=N)/\(∀f∈fs,Am f.2.2<=N)/\∀v∈vs,∀b∈v.2,Am b<=N:=by
  rw[Bu]at hN;refine⟨by omega,fun p h=>?_,fun f h=>?_,fun v h b hb=>?_⟩
  ·have:=Fe h;omega
  ·have:=Ip h;omega
  ·have h1:=Fe hb;have h2:=Iq h;omega
 rw[D7,Bu];obtain⟨M,hM⟩:∃M,M=3518437208781+N:=⟨_,rfl⟩;rw[<-hM]at hp hf hv ⊢;have hC:(Cu ps).length<=N:=by
  unfold Cu
  match ps,hm with
  | [],_=>exact Nat.zero_le _
  | [a],_=>exact Nat.zero_le _
  | a :: b :: l,hm=>exact Nat.le_trans (Er b) (hm.2.1 b (by simp))
 have s1:∀ {α:Type} (l:List α) (g:α->Nat),(l.map fun a=>g a*M).sum=(l.map g).sum*M:=by
  intro α l g
  induction l with
  | nil=>simp
  | cons a l ih=>rw[List.map_cons,List.sum_cons,List.map_cons,List.sum_cons,ih,Nat.add_mul]
 have h2:((ps.map Ed).flatten).length<=Au ps*M:=by
  have h:=Ga (f:=Ed) (g:=fun p=>Am p*M) (l:=ps) fun p h=>hp p h (v3 p h) (hm.2.1 p h);rw[s1]at h;exact h
 have h3:((fs.map fun f=>Ed f.2.2).flatten).length<=Bm fs*M:=by
  have h:=Ga (f:=fun f:Z8×Int×Ty=>Ed f.2.2) (g:=fun f=>Am f.2.2*M) (l:=fs) fun f h=>hf f h (v4 f h) (hm.2.2.1 f h);rw[s1 fs fun f=>Am f.2.2]at h;exact h
 have h4:((vs.map fun v=>(v.2.map Ed).flatten).flatten).length<=Bl vs*M:=by
  have h:=Ga (f:=fun v:Z8×List Ty=>(v.2.map Ed).flatten) (g:=fun v=>Au v.2*M) (l:=vs) fun v h=>by
   have h5:=Ga (f:=Ed) (g:=fun p=>Am p*M) (l:=v.2) fun b hb=>hv v h b hb (v2 v h b hb) (hm.2.2.2 v h b hb);rw[s1]at h5;exact h5
  rw[s1 vs fun v=>Au v.2]at h;exact h
 simp only[List.length_cons,List.length_append,List.length_map];rw[Nat.add_mul,Nat.add_mul,Nat.add_mul,Nat.one_mul];have hB:1+vs.length+(Cu ps).length<=M:=by omega
 generalize Au ps*M=a1 at h2 ⊢;generalize Bm fs*M=a2 at h3 ⊢;generalize Bl vs*M=a3 at h4 ⊢;omega
theorem Ow {α:Type} [DecidableEq α]:∀ {l m:List α},l.Nodup->(∀x∈l,x∈m)->l.length<=m.length
 | [],_,_,_=>Nat.zero_le _
 | a :: l,m,h,hs=>by
  have h1:=List.nodup_cons.1 h;have ha:=hs a List.mem_cons_self;have h2:=Ow (l:=l) (m:=m.erase a) h1.2 fun x hx=>(List.mem_erase_of_ne (fun e=>by subst e;exact h1.1 hx)).2 (hs x (List.mem_cons_of_mem _ hx));rw[List.length_erase_of_mem ha]at h2;have:=List.length_pos_of_mem ha;rw[List.length_cons];omega
