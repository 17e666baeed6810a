import Derived.Test.YtlpfpehegddcfaaGreatDoorMx14
import Derived.Test.YtlpfpehegddcfaaGreatDoorMx15
import Derived.Lib.OwnBridge
import Derived.Sort.OwnSorted
namespace Go.Proofs.YtlpfpehegddcfaaGreatDoor
set_option maxRecDepth 100000
set_option maxHeartbeats 64000000
open Go.RowKit
theorem Jdv (t:Z8) (n:Int) (ps:List Ty) (fs:Bx) (vs:Bt):Fq (.mk 9 t n ps fs vs) (decide (0<=n)):=by
 intro K w b o h;obtain⟨A,c,A2,c2,A3,c3,⟨x0,x1,x2,x3,x4,x5⟩,ht,hP,hF,hV⟩:=h.six;clear h ht hP hF hV;go_enter Tryz.func96,Tryz.ntmps96;go_wp2_with fail;go_ret
 exact⟨rfl,Below.refl _ _⟩
theorem Jck (t:Z8) (n:Int) (ps:List Ty) (fs:Bx) (vs:Bt):Fq (.mk 16 t n ps fs vs) (B6 t):=by
 intro K w b o h;obtain⟨A,c,A2,c2,A3,c3,⟨x0,x1,x2,x3,x4,x5⟩,ht,hP,hF,hV⟩:=h.six;have KC:=Hd (Fb t w ht);generalize B6 t=r at KC ⊢;clear h ht hP hF hV;go_enter Tryz.func96,Tryz.ntmps96;go_wp2_with fail;refine KC.o.mono ?_;rintro e w2 ⟨rfl,hA⟩;have hB:=Hd hA;clear hA;go_wp2_with fail;go_ret
 exact⟨rfl,hB.o⟩
theorem Jco (t:Z8) (n:Int) (ps:List Ty) (fs:Bx) (vs:Bt):Fq (.mk 22 t n ps fs vs) (B6 t):=by
 intro K w b o h;obtain⟨A,c,A2,c2,A3,c3,⟨x0,x1,x2,x3,x4,x5⟩,ht,hP,hF,hV⟩:=h.six;have KC:=Hd (Fb t w ht);generalize B6 t=r at KC ⊢;clear h ht hP hF hV;go_enter Tryz.func96,Tryz.ntmps96;go_wp2_with fail;refine KC.o.mono ?_;rintro e w2 ⟨rfl,hA⟩;have hB:=Hd hA;clear hA;go_wp2_with fail;go_ret
 exact⟨rfl,hB.o⟩
theorem Jcl (t:Z8) (n:Int) (ps:List Ty) (fs:Bx) (vs:Bt):Fq (.mk 17 t n ps fs vs) (B6 t):=by
 intro K w b o h;obtain⟨A,c,A2,c2,A3,c3,⟨x0,x1,x2,x3,x4,x5⟩,ht,hP,hF,hV⟩:=h.six;have KC:=Hd (Fb t w ht);generalize B6 t=r at KC ⊢;clear h ht hP hF hV;go_enter Tryz.func96,Tryz.ntmps96;go_wp2_with fail;refine KC.o.mono ?_;rintro e w2 ⟨rfl,hA⟩;have hB:=Hd hA;clear hA;go_wp2_with fail;go_ret
 exact⟨rfl,hB.o⟩
theorem Jch (t:Z8) (n:Int) (ps:List Ty) (fs:Bx) (vs:Bt) (fv:Ty->Bool) (hf:∀v∈vs,∀b∈v.2,F5 b (fv b)):Fq (.mk 13 t n ps fs vs) (Eo (Dj vs fv)):=by
 intro K w b o h;obtain⟨A,c,A2,c2,A3,c3,⟨x0,x1,x2,x3,x4,x5⟩,ht,hP,hF,hV⟩:=h.six;have KC:=Hd (Ml hV hf);generalize Eo (Dj vs fv)=r at KC ⊢;clear h ht hP hF hV hf;go_enter Tryz.func96,Tryz.ntmps96;go_wp2_with fail;refine KC.o.mono ?_;rintro e w2 ⟨rfl,hA⟩;have hB:=Hd hA;clear hA;go_wp2_with fail;go_ret
 exact⟨rfl,hB.o⟩
theorem Jci (t:Z8) (n:Int) (ps:List Ty) (fs:Bx) (vs:Bt) (fv:Ty->Bool) (hf:∀f∈fs,F5 f.2.2 (fv f.2.2)):Fq (.mk 14 t n ps fs vs) (Co (Bq fs fv)):=by
 intro K w b o h;obtain⟨A,c,A2,c2,A3,c3,⟨x0,x1,x2,x3,x4,x5⟩,ht,hP,hF,hV⟩:=h.six;have KC:=Hd (J8 hF hf);generalize Co (Bq fs fv)=r at KC ⊢;clear h ht hP hF hV hf;go_enter Tryz.func96,Tryz.ntmps96;go_wp2_with fail;refine KC.o.mono ?_;rintro e w2 ⟨rfl,hA⟩;have hB:=Hd hA;clear hA;go_wp2_with fail;go_ret
 exact⟨rfl,hB.o⟩
theorem Jcm (t:Z8) (n:Int) (ps:List Ty) (fs:Bx) (vs:Bt):Fq (.mk 20 t n ps fs vs) (B6 t && decide (0<=n) && decide (n<=3)):=by
 intro K w b o h;obtain⟨A,c,A2,c2,A3,c3,⟨x0,x1,x2,x3,x4,x5⟩,ht,hP,hF,hV⟩:=h.six;have KC:=Hd (Fb t w ht);have hC:Z9 (∀wx,Below w.heap.size w wx->wx.cell? ⟨b,o+2,none⟩=some (.int .i64 n)):=Hd fun wx hx=>Aa hx x2;generalize B6 t=r at KC ⊢;clear h ht hP hF hV
 cases r with
 | false=>
  go_enter Tryz.func96,Tryz.ntmps96;go_wp2_with fail;refine KC.o.mono ?_;rintro e w2 ⟨rfl,hA⟩;have hB:=Hd hA;clear hA;go_wp2_with fail;go_ret
  exact⟨rfl,hB.o⟩
 | true=>
  by_cases h0:0<=n
  ·have e0:decide (0<=n)=true:=by simpa using h0
   have E0:=Hd e0;go_enter Tryz.func96,Tryz.ntmps96;go_wp2_with fail;refine KC.o.mono ?_;rintro e w2 ⟨rfl,hA⟩;have hB:=Hd hA;have y2:=hC.o _ hA;clear hA;go_wp2_with fail;go_ret
   exact⟨by rw[E0.o];first|rfl|simp,hB.o⟩
  ·have e0:decide (0<=n)=false:=by simpa using h0
   have e1:n<0:=by omega
   have E0:=Hd e0;go_enter Tryz.func96,Tryz.ntmps96;go_wp2_with fail;refine KC.o.mono ?_;rintro e w2 ⟨rfl,hA⟩;have hB:=Hd hA;have y2:=hC.o _ hA;clear hA;go_wp2_with fail;go_ret
   exact⟨by rw[E0.o];first|rfl|simp,hB.o⟩
theorem Jcn (t:Z8) (n:Int) (ps:List Ty) (fs:Bx) (vs:Bt):Fq (.mk 21 t n ps fs vs) ((n == 0 && t.toList == []) || (n == 1 && B6 t)):=by
 intro K w b o h;obtain⟨A,c,A2,c2,A3,c3,⟨x0,x1,x2,x3,x4,x5⟩,ht,hP,hF,hV⟩:=h.six;have KC:=Hd (Fb t w ht);generalize B6 t=r at KC ⊢;clear h ht hP hF hV;by_cases h0:n=0
 ·subst h0
  cases hl:t.toList with
  | nil=>
   go_enter Tryz.func96,Tryz.ntmps96;go_wp2_with fail;go_ret
   exact⟨rfl,Below.refl _ _⟩
  | cons a l=>
   go_enter Tryz.func96,Tryz.ntmps96;go_wp2_with fail;go_ret
   exact⟨rfl,Below.refl _ _⟩
 ·have e0:(n == 0)=false:=by simpa using h0
  have E0:=Hd e0;by_cases h1:n=1
  ·subst h1;go_enter Tryz.func96,Tryz.ntmps96;go_wp2_with fail;refine KC.o.mono ?_;rintro e w2 ⟨rfl,hA⟩;have hB:=Hd hA;clear hA;go_wp2_with fail;go_ret
   exact⟨by first|rfl|simp,hB.o⟩
  ·have e1:(n == 1)=false:=by simpa using h1
   have E1:=Hd e1;go_enter Tryz.func96,Tryz.ntmps96;go_wp2_with fail;go_ret
   exact⟨by rw[E0.o,E1.o];rfl,Below.refl _ _⟩
theorem Jcp (t:Z8) (n:Int) (ps:List Ty) (fs:Bx) (vs:Bt):Fq (.mk 23 t n ps fs vs) (ps.all fun p=>p.k == 13):=by
 intro K w b o h;obtain⟨A,c,A2,c2,A3,c3,⟨x0,x1,x2,x3,x4,x5⟩,ht,hP,hF,hV⟩:=h.six;have HP:=Hd hP;have hlp:=hP.short;clear h ht hP hF hV;go_enter Tryz.func96,Tryz.ntmps96;go_wp2_with fail
 go_loopw [101] (fun v wr=>∃(i:Nat),i<=ps.length/\v=.int .i64 i/\(ps.all fun p=>p.k == 13)=(ps.drop i).all (fun p=>p.k == 13)/\wr=w) (fun v _=>ps.length - (intOf v).toNat)
 case atStart=>exact⟨0,by omega,rfl,by rw[List.drop_zero],rfl⟩
 case round=>
  obtain⟨i,hi,rfl,he,rfl⟩:=hrel;have HE:=Hd he;clear he;by_cases hB:i<ps.length
  ·have t1:decide ((i:Int)<(ps.length:Int))=true:=by simp;omega
   have hD:wrap64 ((i:Int)+1)=((i+1:Nat):Int):=Ba (by omega);obtain⟨pb,po,hA,_,hr⟩:=HP.o.at (by omega);subst hA;obtain⟨q,hq,hH⟩:∃q,ps[i].k=q/\wr.cell? ⟨pb,po+i*6,none⟩=some (.int .i64 q):=by
    have h1:=hr i hB;generalize ps[i]=t at h1;obtain⟨k,s,n,ps,fs,vs⟩:=t;obtain⟨_,_,_,_,_,_,⟨x0,_⟩,_⟩:=h1.six;exact⟨k,rfl,x0⟩
   have HS:=Hd (P9 (p:=fun p:Ty=>p.k == 13) hB);have HM:=Hd (Bg hB);have hG:=Hd hB;by_cases hC:q=13
   ·have HK:Z9 (((ps[i]'hB).k == 13)=true):=Hd (by rw[hq];simpa using hC);have e13:(q != 13)=false:=(by simpa using hC);clear hr hi hq;go_wp2_with fail;refine⟨⟨i+1,hG.o,by first|rfl|rw[hD],by rw[HE.o,HS.o,HK.o];rfl,by first|rfl|trivial⟩,?_⟩;first|exact HM.o|(rw[hD];exact HM.o)
   ·have HK:Z9 (((ps[i]'hB).k == 13)=false):=Hd (by rw[hq];simpa using hC);have e13:(q != 13)=true:=(by simpa using hC);clear hr hi hq;go_wp2_with fail;go_ret
    exact⟨by rw[HE.o,HS.o,HK.o];rfl,Below.refl _ _⟩
  ·have t1:decide ((i:Int)<(ps.length:Int))=false:=by simp;omega
   have hE:Z9 ((ps.all fun p=>p.k == 13)=true):=Hd (by rw[HE.o,List.drop_eq_nil_of_le (by omega)];rfl);clear hi;go_wp2_with fail;go_ret
   exact⟨by rw[hE.o];rfl,Below.refl _ _⟩
theorem Jcq (k:Int) (t:Z8) (n:Int) (ps:List Ty) (fs:Bx) (vs:Bt) (h9:k≠9) (hA:k≠13) (hB:k≠14) (hC:k≠15) (hD:k≠16) (hE:k≠17) (hF:k≠20) (hG:k≠21) (hH:k≠22) (hI:k≠23):Fq (.mk k t n ps fs vs) true:=by
 intro K w b o h;obtain⟨A,c,A2,c2,A3,c3,⟨x0,x1,x2,x3,x4,x5⟩,-⟩:=h.six;have t9:(k == 9)=false:=by simpa using h9
 have t13:(k == 13)=false:=by simpa using hA
 have t14:(k == 14)=false:=by simpa using hB
 have t15:(k == 15)=false:=by simpa using hC
 have t16:(k == 16)=false:=by simpa using hD
 have t17:(k == 17)=false:=by simpa using hE
 have t20:(k == 20)=false:=by simpa using hF
 have t21:(k == 21)=false:=by simpa using hG
 have t22:(k == 22)=false:=by simpa using hH
 have t23:(k == 23)=false:=by simpa using hI
 clear h h9 hA hB hC hD hE hF hG hH hI;go_enter Tryz.func96,Tryz.ntmps96;go_wp2_with fail;go_ret
 exact⟨rfl,Below.refl _ _⟩
theorem ν (k:Int) (t:Z8) (n:Int) (ps:List Ty) (fs:Bx) (vs:Bt) (fv:Ty->Bool) (hf:∀f∈fs,F5 f.2.2 (fv f.2.2)) (hv:∀v∈vs,∀b∈v.2,F5 b (fv b)) :
  Fq (.mk k t n ps fs vs) (Bs k t n ps (Co (Bq fs fv)) (Eo (Dj vs fv))):=by
 unfold Bs;by_cases h9:k=9
 ·subst h9;exact Jdv t n ps fs vs
 rw[if_neg h9];by_cases hG:k=16
 ·subst hG;exact Jck t n ps fs vs
 by_cases hI:k=22
 ·subst hI;exact Jco t n ps fs vs
 by_cases hH:k=17
 ·subst hH;exact Jcl t n ps fs vs
 rw[if_neg (by omega)];by_cases hA:k=13
 ·subst hA;exact Jch t n ps fs vs fv hv
 rw[if_neg hA];by_cases hB:k=14
 ·subst hB;exact Jci t n ps fs vs fv hf
 rw[if_neg hB];by_cases hC:k=15
 ·subst hC;exact Jcj t n ps fs vs
 rw[if_neg hC];by_cases hD:k=20
 ·subst hD;exact Jcm t n ps fs vs
 rw[if_neg hD];by_cases hE:k=21
 ·subst hE;exact Jcn t n ps fs vs
 rw[if_neg hE];by_cases hF:k=23
 ·subst hF;exact Jcp t n ps fs vs
 rw[if_neg hF];exact Jcq k t n ps fs vs h9 hA hB hC hG hH hD hE hI hF
theorem Zm (t:Ty):F5 t (Aj t):=Ty.ind (C:=fun t=>F5 t (Aj t)) (fun k t n ps fs vs hp hf hv=>by
 rw[Ay];exact Wt k t n ps fs vs _ Aj (ν k t n ps fs vs Aj hf hv) hp) t
def Ea (t:Ty):Bool:=decide (Am t<=4096) && Aj t
theorem L1 {K:Nat->Prop}{w:World}{t:Ty}{cs:List Value}(h:Aw K w t cs) :
  Calls Tryz.prog 35 #[.agg cs.toArray] w fun e w'=>e=.returned (.bool (Ea t))/\Below w.heap.size w w':=S5 h (Zm t)
def Nl (l:List Z8):Prop:=l.Pairwise fun a b=>Dv a b = -1
theorem Sp {a b c:Z8}(h1:Dv a b = -1) (h2:Dv b c = -1):Dv a c = -1:=Ik.2 (List.lt_trans (Ik.1 h1) (Ik.1 h2))
theorem Jes {F:List Z8}{t:Z8}{k:Nat}(hA:Nl F) (hk:k<=F.length) (hE:∀j (h:j<F.length),k<=j->Dv F[j] t=1) (hD:∀j (h:j<F.length),j+1=k->Dv F[j] t = -1):Nl (F.take k++t :: F.drop k):=by
 have hC:∀i (hi:i<F.length),i<k->Dv F[i] t = -1:=fun i hi hF=>by
  rcases Nat.lt_or_ge (i+1) k with h|h
  ·have h1:=hD (k - 1) (by omega) (by omega);have h2:=List.pairwise_iff_getElem.1 hA i (k - 1) hi (by omega) (by omega);exact Sp h2 h1
  ·exact hD i hi (by omega)
 have hB:=hA;unfold Nl at hB;rw[<-List.take_append_drop k F,List.pairwise_append]at hB;obtain⟨h1,h2,h3⟩:=hB;refine List.pairwise_append.2 ⟨h1,List.pairwise_cons.2 ⟨fun b hb=>?_,h2⟩,fun a ha b hb=>?_⟩
 ·obtain⟨j,hj,rfl⟩:=List.getElem_of_mem hb;rw[List.getElem_drop];have:=hE (k+j) (by simp at hj;omega) (by omega);rw[Ny,this]
 ·rcases List.mem_cons.1 hb with rfl|hb
  ·obtain⟨j,hj,rfl⟩:=List.getElem_of_mem ha;rw[List.getElem_take];exact hC _ (by simp at hj;omega) (by simp at hj;omega)
  ·exact h3 a ha b hb
theorem Jen {F:List Z8}{t:Z8}{k:Nat}(x:Z8):x∈F.take k++t :: F.drop k↔x=t\/x∈F:=by
 rw[List.mem_append,List.mem_cons]
 constructor
 ·rintro (h|h|h)
  ·exact .inr (List.mem_of_mem_take h)
  ·exact .inl h
  ·exact .inr (List.mem_of_mem_drop h)
 ·rintro (h|h)
  ·exact .inr (.inl h)
  ·rw[<-List.take_append_drop k F]at h;rcases List.mem_append.1 h with h|h
   ·exact .inl h
   ·exact .inr (.inr h)
theorem Hs:(Tryz.prog.info? 9).map (fun i=>(i.zero,i.size,i.bytes))=some (some (.string ⟨#[]⟩),1,16):=by kernel_rfl
theorem Du.list {B:Nat}{w:World}{v:Value}{l:List Z8}(h:Du B w v l) (hl:l.length<=1000000000000000):∃A c,v=.slice A l.length c/\Cg w l A:=by
 rcases h.of with ⟨rfl,rfl⟩|⟨g,c,rfl,hg,hs⟩
 ·exact⟨none,0,rfl,⟨0,0,fun h=>absurd h (by simp),by simp,fun i h=>absurd h (by simp)⟩⟩
 ·exact⟨_,_,rfl,hs.list hl⟩
structure Fr (v:Value) (w:World) (v':Value) (w':World):Prop where
 keep:∀b,b<w.heap.size->v.ownBlock≠some b->w'.heap[b]?=w.heap[b]?
 own:v'.ownBlock=v.ownBlock\/∃b,v'.ownBlock=some b/\w.heap.size<=b
theorem Fr.refl (v:Value) (w:World):Fr v w v w:=⟨fun _ _ _=>rfl,.inl rfl⟩
theorem Fr.trans {v v1 v2:Value}{w w1 w2:World}(h:Fr v w v1 w1) (h':Fr v1 w1 v2 w2) (hs:w.heap.size<=w1.heap.size):Fr v w v2 w2:=by
 refine⟨fun b hb hn=>?_,?_⟩
 ·refine (h'.keep b (by omega) ?_).trans (h.keep b hb hn);rcases h.own with e|⟨c,e,hc⟩
  ·rw[e];exact hn
  ·rw[e];intro e2;injection e2 with e2;omega
 ·rcases h'.own with e|⟨c,e,hc⟩
  ·rw[e];exact h.own
  ·exact .inr ⟨c,e,by omega⟩
theorem Fr.world {v v':Value}{w w0 w':World}(h:Fr v w v' w') (hb:Below w0.heap.size w0 w):Fr v w0 v' w':=
 ⟨fun b hA hn=>(h.keep b (Nat.lt_of_lt_of_le hA hb.size) hn).trans (hb.block b hA),h.own.imp id fun ⟨b,e,hc⟩=>⟨b,e,Nat.le_trans hb.size hc⟩⟩
def T6 (v:Value) (B:Nat) (w:World) (l:List Z8) (s:Z8):Ending->World->Prop:=fun e w'=>∃v' l',e=.returned v'/\Du B w' v' l'/\Nl l'/\(∀x,x∈l'↔x=s\/x∈l)/\l'.length<=l.length+1/\Below B w w'/\Fr v w v' w'
theorem Dh {l:List Z8}{s:Z8}:Dc l s=true↔s∈l:=by
 unfold Dc;rw[List.any_eq_true]
 constructor
 ·rintro⟨x,hx,h⟩;have:=of_decide_eq_true h;rw[<-this];exact hx
 ·exact fun h=>⟨s,h,decide_eq_true rfl⟩
theorem Ue {B:Nat}{w:World}{v:Value}{l:List Z8}{s:Z8}(hO:Du B w v l) (hA:Nl l) (hB:B<=w.heap.size) (kL:l.length+1<=1099511627776) :
  Calls Tryz.prog 77 #[v,.string s] w (T6 v B w l s):=by
 obtain⟨A,c,rfl,hL⟩:=hO.list (by omega);have KI:=Hd (Ta (c:=c) hL s);have HO:=Hd hO;have kD:=Hd kL;have HA:=Hd hA;have HB:=Hd hB;have aJ:l.length<=1099511627776:=by omega
 obtain⟨i0,aA,aC,aD,aE⟩:=Eg Hs;unfold T6;clear hL hO hA hB kL
 cases hM:Dc l s with
 | true=>
  have HM:=Hd (Dh.1 hM);rw[hM]at KI;go_enter Tryz.func77,Tryz.ntmps77;go_wp2_with fail;refine KI.o.mono ?_;rintro e w2 ⟨rfl,rfl⟩;go_wp2_with fail;go_ret
  exact⟨_,l,rfl,HO.o,HA.o,fun x=>⟨.inr,fun h=>h.elim (fun e=>e ▸ HM.o) id⟩,by omega,Below.refl _ _,Fr.refl _ _⟩
 | false=>
  have HN:Z9 (¬ s∈l):=Hd (fun h=>by rw[Dh.2 h]at hM;cases hM);rw[hM]at KI;clear hM;have hN:Z9 ((w.alloc (.cells #[.string s] 9)).ownsRow B 9 1 (.slice A l.length c) l.length (l.map .string)):=Hd (HO.o.later ((Below.refl _ _).alloc (Nat.le_refl _) _));have kU:=Hd (Dz w [.string s] 9);have kH:Z9 ((l++[s]).length=l.length+1):=Hd (by simp);go_enter Tryz.func77,Tryz.ntmps77;go_wp2_with fail;refine KI.o.mono ?_;rintro e w2 ⟨rfl,rfl⟩;go_wp2_with (at_builtin;refine wpList_plain rfl fun K hK=>?_;go_loud (refine Cb _ _ 46 rfl B 9 i0 (.string ⟨#[]⟩) 1 16 Tryz.underlying46 aA aC aD aE rfl (by decide) _ _ _ rfl hN.o ⟨w2.heap.size,0,none⟩ 1 1 [.string s] rfl rfl ?a0 ?a1 ?a2 ?a3 ?a4 ?_))
  case a0=>exact kU.o
  case a1=>
   intro u hu;simp only[List.mem_cons,List.not_mem_nil,or_false]at hu;rw[hu];rfl
  case a2=>have:=kD.o;unfold maxLen;omega
  case a3=>have:=kD.o;omega
  case a4=>have:=HB.o;simp only[World.size_alloc];omega
  intro v5 w5 hI hZ _ hD;refine hK _ _ ?_;clear hK K;have kP:Du B w5 v5 (l++[s]):=by
   unfold Du;rw[kH.o,List.map_append];exact hI
  have kK:Below B w2 w5:=((Below.refl B w2).alloc HB.o _).grown hZ (by have:=HB.o;simp only[World.size_alloc];omega) fun k hk=>(hN.o.lt k hk).1;rcases kP.of with ⟨-,kC⟩|⟨g5,c5,rfl,hS,hT⟩
  ·exact absurd kC (by simp)
  have hX:=Hd hT;have hW:=Hd hS;have kS:=Hd kK;have hR:∀b,b<w2.heap.size->(Value.slice A l.length c).ownBlock≠some b->b≠g5:=fun b hb hn e=>by
   rcases hD with h|h
   ·exact hn (by rw[<-h,e];rfl)
   ·have h2:g5=w2.heap.size+1:=(by first|exact Option.some.inj h|(have h3:=Option.some.inj h;simpa using h3));omega
  have kW:=Hd hR;have hY:Z9 ((Value.slice (some ⟨g5,0,none⟩) (l.length+1) c5).ownBlock=(Value.slice A l.length c).ownBlock\/∃b,(Value.slice (some ⟨g5,0,none⟩) (l.length+1) c5).ownBlock=some b/\w2.heap.size<=b):=Hd (by
   rcases hD with h|h
   ·exact .inl h
   ·have h2:g5=w2.heap.size+1:=(by first|exact Option.some.inj h|(have h3:=Option.some.inj h;simpa using h3));exact .inr ⟨g5,rfl,by omega⟩)
  have kY:Z9 (∀b,b<w2.heap.size->(Value.slice A l.length c).ownBlock≠some b->w5.heap[b]?=w2.heap[b]?):=Hd fun b hb hn=>(hZ.block b (by simp only[World.size_alloc];omega) hn.symm).trans (Below.heap_alloc _ _ _ hb);rw[kH.o];have aF:wrap64 (((l.length+1:Nat):Int) - 1)=((l.length:Nat):Int):=by rw[Cm (by omega) (by omega)];omega
  clear hI hZ kP kK hT hS hD hR;go_wp2_with fail
  go_loopw [5] (fun v wr=>∃(k:Nat) (x:Z8),k<=l.length/\v=.int .i64 k/\Gq wr g5 c5 (l.take k++x :: l.drop k)/\(∀j (h:j<l.length),k<=j->Dv l[j] s=1)/\Below B w2 wr/\(∀b,b<w2.heap.size->(Value.slice A l.length c).ownBlock≠some b->wr.heap[b]?=w2.heap[b]?)) (fun v _=>(intOf v).toNat)
  case atStart=>exact⟨l.length,s,Nat.le_refl _,by first|rfl|rw[aF],by rw[List.take_length,List.drop_length];exact hX.o,fun j h hj=>absurd h (by omega),kS.o,kY.o⟩
  case round=>
   obtain⟨k,x,kB,rfl,hC,kA,hQ,kO⟩:=hrel;have kG:Z9 (∀j y,∀b,b<w2.heap.size->(Value.slice A l.length c).ownBlock≠some b->(wr.setCell ⟨g5,j,none⟩ y).heap[b]?=w2.heap[b]?):=Hd fun j y b hb hn=>(Below.heap_setCell _ _ _ _ (kW.o b hb hn)).trans (kO b hb hn);clear kO;have kF:=Hd kA;have aG:=Hd hQ;have hG:(l.take k).length=k:=by simp;omega
   have hH:=hC.set (s:=s);rw[hG]at hH;have aH:=hC.reps k x (by rw[List.getElem?_append_right (by omega),hG,Nat.sub_self];rfl);obtain⟨cur,hJ,-⟩:=hC.blk;have aI:∀o,wr.frozen? ⟨g5,o,none⟩=false:=fun o=>Lib.frozen_of_heap hJ o;have hF:Z9 ((∀j (h:j<l.length),j+1=k->Dv l[j] s = -1)->∃v' l',Ending.returned (.slice (some ⟨g5,0,none⟩) (l.length+1) c5)=.returned v'/\Du B (wr.setCell ⟨g5,k,none⟩ (.string s)) v' l'/\Nl l'/\(∀x,x∈l'↔x=s\/x∈l)/\l'.length<=l.length+1/\Below B w2 (wr.setCell ⟨g5,k,none⟩ (.string s))/\Fr (.slice A l.length c) w2 v' (wr.setCell ⟨g5,k,none⟩ (.string s))):=Hd fun aB=>by
    have hl:(l.take k++s :: l.drop k).length=l.length+1:=(by simp;omega);have h1:=hH.o hW.o;rw[hl]at h1;exact⟨_,_,rfl,h1,Jes HA.o kB kF.o aB,Jen,by omega,hQ.setCell hW.o _,kG.o _ _,hY.o⟩
   have i2:(k:Int)<(l.length:Int)+1:=by omega
   have i3:(0:Int)<=(k:Int):=by omega
   by_cases kN:k=0
   ·subst kN;have hV:=Hd (hF.o fun j _ hj=>absurd hj (by omega));clear kB hC kA hQ hG hH hJ hF;go_wp2_with fail;go_ret
    exact hV.o
   ·obtain⟨j,rfl⟩:∃j,k=j+1:=⟨k - 1,by omega⟩;have hU:j<l.length:=(by omega);have kZ:=hC.reps j l[j] (by rw[List.getElem?_append_left (by omega),List.getElem?_take,if_pos (by omega)];exact List.getElem?_eq_getElem hU);have hE:=hC.set (s:=l[j]);rw[hG]at hE;have hP:Z9 (Gq (wr.setCell ⟨g5,j+1,none⟩ (.string l[j])) g5 c5 (l.take j++l[j] :: l.drop j)):=Hd (by
     have e1:l.take (j+1)=l.take j++[l[j]]:=List.take_succ_eq_append_getElem hU;rw[e1,List.append_assoc]at hE;rw[List.drop_eq_getElem_cons hU];exact hE)
    have kJ:Z9 (l[j]≠s):=Hd fun e=>HN.o (e ▸ List.getElem_mem hU);have kE:Z9 (Dv l[j] s=1->∀a (h:a<l.length),j<=a->Dv l[a] s=1):=Hd fun e a h ha=>by
     rcases Nat.lt_or_ge j a with h1|h1
     ·exact kF.o a h (by omega)
     ·have:a=j:=by omega
      subst this;exact e
    have kI:Z9 (Dv l[j] s = -1->∀a (h:a<l.length),a+1=j+1->Dv l[a] s = -1):=Hd fun e a h ha=>by
     have:a=j:=by omega
     subst this;exact e
    have kT:=Hd (fun y=>hQ.setCell (p:=⟨g5,j+1,none⟩) hW.o y);have kX:Z9 (j<=l.length):=Hd (by omega);have kM:=Hm l[j] s;generalize l[j]=y at kZ hP kJ kE kI kM;have kQ:wrap64 (((j+1:Nat):Int) - 1)=((j:Nat):Int):=(by rw[Cm (by omega) (by omega)];omega);have kR:wrap64 (j:Int)=(j:Int):=Cm (by omega) (by omega);have i4:(0:Int)<=(j:Int):=(by omega);have i5:(j:Int)<(l.length:Int)+1:=(by omega);have i6:(j:Int)+1<(l.length:Int)+1:=(by omega);clear kB hC kA hQ hG hH hE hJ kN hU;rcases kM with ⟨ga,gb,ge⟩|⟨ga,gb,ge⟩|⟨ga,gb,ge⟩
    ·have hV:=Hd (hF.o (kI.o ge));clear hF ge;go_wp2_with fail;go_ret
     exact hV.o
    ·have kV:=Hd (kE.o ge);clear hF ge;go_wp2_with fail;refine⟨⟨j,y,kX.o,by first|rfl|(rw[kQ])|(rw[kR]),hP.o,kV.o,kT.o _,kG.o _ _⟩,?_⟩;first|(simp only[intOf];omega)|(rw[kQ];simp only[intOf];omega)|(rw[kR];simp only[intOf];omega)
    ·exact absurd (Nz ge) kJ.o
theorem Yc:Jc6:=fun K w0 w g c s h hb hg hs=>by
 by_cases h2:s.length<2
 ·exact Ss h hb h2
 ·exact V0 h hb hg (by omega) hs
theorem O7 {K:Nat->Prop}{w:World}{l:List Ty}{A:Option Addr}{c:Nat}(hL:Bk K w l A c) (hA:(Bz l).length<=1099511627776) (hB:∀b,K b->b<w.heap.size) :
  Calls Tryz.prog 68 #[.slice A l.length c] w (Gz K w l):=Xl Jal Jam Yc Yd hL hA hB
open Go.RowKit Go.Sort
theorem O2:Ic []=[]:=List.eq_nil_of_length_eq_zero (Nat.le_zero.1 (Kk []))
theorem U7 {B:Nat}{w:World}{v:Value}{l:List Z8}(h:w.ownsRow B 9 1 v l.length (l.map .string)):Du B w v l:=h
def Lg (l:List Z8):List Z8:=((l.map (·.data.toList)).mergeSort fun x y=>decide (x<=y)).map fun x=>⟨x.toArray⟩
theorem Xg (l:List Z8):(Lg l).map Value.string=((l.map (·.data.toList)).mergeSort fun x y=>decide (x<=y)).map encStr:=by
 unfold Lg;rw[List.map_map];rfl
theorem Kn (l:List Z8):(Lg l).length=l.length:=by unfold Lg;simp
theorem Xf (l:List Z8):(Lg l).map (·.data.toList)=(l.map (·.data.toList)).mergeSort fun x y=>decide (x<=y):=by
 unfold Lg;rw[List.map_map];exact List.map_id' _
theorem Jak {B:Nat}{w:World}{g c:Nat}{l:List Z8}(hs:Gq w g c l) (hb:B<=g) (hn:l.length<=1000000000) :
  Calls Tryz.prog 133 #[.slice (some ⟨g,0,none⟩) l.length c] w fun e w'=>e=.returned (.tuple #[])/\Gq w' g c (Lg l)/\w.grownBy w' (some g):=by
 have ho:=hs.o hb;obtain⟨cur,h1,h2⟩:=hs.blk;have h3:w.ownsRow B 9 1 (.slice (some ⟨g,0,none⟩) l.length c) l.length ((l.map (·.data.toList)).map encStr):=by rw[Lib.map_encStr l];exact ho
 obtain⟨g',cap,hv,_,hB,_,_,_,hH⟩:=Lib.holds_of_ownsRow h3 (by intro h;cases h);injection hv with hA _ hC
 injection hA with hA
 injection hA with hA
 subst hA;have main:=Any.slices_Sort_string Jed g 0 c (l.map (·.data.toList)) w hH hB (by rw[List.length_map];omega);rw[List.length_map]at main;refine main.mono ?_;rintro e w' ⟨rfl,n,os,rfl⟩;refine⟨rfl,?_,grownBy_sorted _⟩;have h4:=ownsRow_sorted (w:=w) (base:=B) (cap:=c) (n:=n) (os:=os) (ss:=l.map (·.data.toList)) (ts:=(l.map (·.data.toList)).mergeSort fun x y=>decide (x<=y)) (by simp) hb h1 (by rw[List.length_map];exact hs.le) hs.mx (by omega);rw[List.length_map,<-Xg]at h4;have h5:=U7 (l:=Lg l) (by rw[Kn];exact h4);rcases h5.of with ⟨h6,_⟩|⟨g2,c2,h6,_,h7⟩
 ·cases h6
 ·injection h6 with h8 _ h9
  injection h8 with h8
  injection h8 with h8
  subst h8;subst h9;exact h7
theorem Nq {B:Nat}{w:World}{g c:Nat}{l:List Z8}(hs:Gq w g c l) (hb:B<=g) (hn:l.length<=1000000000) :
  Calls Tryz.prog 134 #[.slice (some ⟨g,0,none⟩) l.length c] w fun e w'=>e=.returned (.slice (some ⟨g,0,none⟩) ((Lib.compact (l.map (·.data.toList))).map fun x=>(⟨x.toArray⟩:Z8)).length c)/\Gq w' g c ((Lib.compact (l.map (·.data.toList))).map fun x=>⟨x.toArray⟩)/\Below B w w':=by
 have ho:=hs.o hb;have h3:w.ownsRow B 9 1 (.slice (some ⟨g,0,none⟩) l.length c) l.length ((l.map (·.data.toList)).map encStr):=by rw[Lib.map_encStr l];exact ho
 obtain⟨g',cap,hv,_,hC,_,_,_,hH⟩:=Lib.holds_of_ownsRow h3 (by intro h;cases h);injection hv with hA _ hD
 injection hA with hA
 injection hA with hA
 subst hA;have hB:(Lib.compact (l.map (·.data.toList))).length<=l.length:=by
  unfold Lib.compact Lib.compactUpTo;rw[List.length_map];refine Nat.le_trans (List.length_filter_le _ _) ?_;rw[List.length_range,List.length_map];omega
 have main:=Any.slices_Compact_string Ye g 0 c (l.map (·.data.toList)) w hH (by rw[List.length_map];omega) (by rw[List.length_map];exact hs.le);rw[List.length_map]at main;refine main.mono ?_;rintro e w' ⟨rfl,q,rfl⟩;refine⟨by rw[List.length_map],?_,Lib.below_putRow (Below.refl _ _) hb⟩;have h4:=Lib.ownsRow_putRow (q:=q) (k:=(Lib.compact (l.map (·.data.toList))).length) (ys:=Lib.compact (l.map (·.data.toList))++List.replicate (l.length - (Lib.compact (l.map (·.data.toList))).length) []) h3 (by rw[List.length_append,List.length_replicate];omega) hB;rw[List.take_left']at h4;rotate_left
 ·rfl
 have h5:=U7 (l:=(Lib.compact (l.map (·.data.toList))).map fun x=>(⟨x.toArray⟩:Z8)) (by rw[List.length_map,List.map_map];exact h4);rcases h5.of with ⟨h6,_⟩|⟨g2,c2,h6,_,h7⟩
 ·cases h6
 ·injection h6 with h8 _ h9
  injection h8 with h8
  injection h8 with h8
  subst h8;subst h9;exact h7
def Bi:Ty->List Z8
 | .mk k t _ ps fs _=>if k=22 then [t] else (ps.attach.mapIdx fun i ⟨p,_⟩=>if (k == 21 && i == 1) then [] else Bi p).flatten++(fs.attach.map fun ⟨f,_⟩=>Bi f.2.2).flatten
termination_by t=>SizeOf.sizeOf t
decreasing_by
 ·exact D2 ‹_›
 ·exact Ei ‹_›
def Cq (k:Int):Nat->List Ty->List Z8
 | _,[]=>[]
 | i,p :: l=>(if (k == 21 && i == 1) then [] else Bi p)++Cq k (i+1) l
def Dd (l:Bx):List Z8:=(l.map fun f=>Bi f.2.2).flatten
theorem K2 {α:Type}(k:Int) (g:α->Ty):∀(l:List α) (j:Nat),(l.mapIdx fun i p=>if (k == 21 && (i+j) == 1) then [] else Bi (g p)).flatten=Cq k j (l.map g)
 | [],_=>rfl
 | a :: l,j=>by
  rw[List.mapIdx_cons,List.flatten_cons,List.map_cons,Cq,<-K2 k g l (j+1)];simp only[Nat.zero_add,Nat.add_assoc,Nat.add_comm 1 j]
theorem Gf (k t n ps fs vs):Bi (.mk k t n ps fs vs)=if k=22 then [t] else Cq k 0 ps++Dd fs:=by
 rw[Bi];have h:=K2 k (fun p:{x // x∈ps}=>p.1) ps.attach 0;simp only[Nat.add_zero]at h;rw[h];unfold Dd;simp only[List.map_attach_eq_pmap,List.pmap_eq_map,List.map_id']
theorem Lc {k:Int}{ps:List Ty}{i:Nat}(h:i<ps.length):Cq k i (ps.drop i)=(if (k == 21 && i == 1) then [] else Bi ps[i])++Cq k (i+1) (ps.drop (i+1)):=by
 rw[List.drop_eq_getElem_cons h,Cq]
theorem Lb {fs:Bx}{i:Nat}(h:i<fs.length):Dd (fs.drop i)=Bi fs[i].2.2++Dd (fs.drop (i+1)):=by
 rw[List.drop_eq_getElem_cons h,Dd,List.map_cons,List.flatten_cons];rfl
theorem K8 (k:Int):∀(ps:List Ty) (i:Nat),(∀p∈ps,(Fg p=true↔Bi p≠[]))->(G7 k i ps=true↔Cq k i ps≠[])
 | [],_,_=>by simp[G7,Cq]
 | p :: l,i,h=>by
  rw[G7,Cq,Bool.or_eq_true,K8 k l (i+1) fun q hq=>h q (List.mem_cons_of_mem _ hq),Bool.and_eq_true,h p List.mem_cons_self]
  cases hq:(k == 21 && i == 1) <;> simp only[Bool.not_false,Bool.not_true,Bool.false_eq_true,if_false,if_true,ne_eq,List.append_eq_nil_iff,List.nil_append,true_and,false_and,false_or,not_and] <;> (try by_cases e:Bi p=[] <;> simp[e])
theorem Td (t:Ty):Fg t=true↔Bi t≠[]:=by
 refine Ty.ind (C:=fun t=>Fg t=true↔Bi t≠[]) (fun k t n ps fs vs hp hf _=>?_) t;rw[Pq,Gf];by_cases hk:k=22
 ·rw[if_pos hk,hk];simp
 ·rw[if_neg hk];have e:(k == 22)=false:=by simpa using hk
  rw[e,Bool.false_or,Bool.or_eq_true,K8 k ps 0 hp];have hF:I0 fs=true↔Dd fs≠[]:=by
   unfold I0 Dd;rw[List.any_eq_true,ne_eq,List.flatten_eq_nil_iff]
   constructor
   ·rintro⟨f,hm,h⟩ hn;exact (hf f hm).1 h (hn _ (List.mem_map_of_mem hm))
   ·intro h;apply Classical.byContradiction;intro hn;refine h fun l hl=>?_;obtain⟨f,hm,rfl⟩:=List.mem_map.1 hl;apply Classical.byContradiction;intro hA;exact hn ⟨f,hm,(hf f hm).2 hA⟩
  rw[hF,ne_eq,ne_eq,ne_eq,List.append_eq_nil_iff];by_cases e1:Cq k 0 ps=[] <;> simp[e1]
structure Ek (w0:World) (w:World) (v:Value) (l N:List Z8) (v':Value) (w':World) (l':List Z8):Prop where
 own:Du w0.heap.size w' v' l'
 asc:Nl l'
 mem:∀x,x∈l'↔x∈l\/x∈N
 len:l'.length<=l.length+N.length
 low:Below w0.heap.size w0 w'
 big:w.heap.size<=w'.heap.size
 fr:Fr v w v' w'
theorem Ek.step {w0 w w1 w2:World}{v v1 v2:Value}{l N M l1 l2:List Z8}(h:Ek w0 w v l N v1 w1 l1) (h':Ek w0 w1 v1 l1 M v2 w2 l2):Ek w0 w v l (N++M) v2 w2 l2:=by
 refine⟨h'.own,h'.asc,fun x=>?_,?_,h'.low,Nat.le_trans h.big h'.big,h.fr.trans h'.fr h.big⟩
 ·rw[h'.mem,h.mem,List.mem_append,or_assoc]
 ·have:=h.len;have:=h'.len;rw[List.length_append];omega
theorem Ek.from {w0 wb w w':World}{v v':Value}{l N l':List Z8}(h:Ek w0 w v l N v' w' l') (hb:Below wb.heap.size wb w):Ek w0 wb v l N v' w' l':=
 ⟨h.own,h.asc,h.mem,h.len,h.low,Nat.le_trans hb.size h.big,h.fr.world hb⟩
def Xt (t:Ty):Prop:=∀(K:Nat->Prop) (w0 w:World) (cs:List Value) (v:Value) (l:List Z8),Aw K w0 t cs->Below w0.heap.size w0 w->Du w0.heap.size w v l->Nl l->l.length+(Bi t).length<=1099511627776 ->
 Calls Tryz.prog 79 #[.agg cs.toArray,v] w fun e w'=>∃v' l',e=.returned v'/\Ek w0 w v l (Bi t) v' w' l'
theorem Rp (k:Int) (s:Z8) (n:Int) (ps:List Ty) (fs:Bx) (vs:Bt) (hp:∀p∈ps,Xt p) (hf:∀f∈fs,Xt f.2.2):Xt (.mk k s n ps fs vs):=by
 intro K w0 w cs v l ht hb hO hA hR;obtain⟨Ap,cp,Af,cf,Av,cv,rfl,-,hU,hT,-⟩:=ht.inv;have hlp:=hU.short;have hlf:=hT.shortF;obtain⟨As,c,rfl,-⟩:=hO.list (by omega);have hV:=Hd (hb.alloc hb.size (.cells (Az k s n Ap ps.length cp Af fs.length cf Av vs.length cv).toArray 26));have hW:Z9 (Below w.heap.size w (w.alloc (.cells (Az k s n Ap ps.length cp Af fs.length cf Av vs.length cv).toArray 26))):=Hd ((Below.refl _ _).alloc (Nat.le_refl _) _);have kD:=Hd (hO.later hW.o);have kG:=Hd fun b (h:(Value.slice As l.length c).ownBlock=some b)=>(hO.lt b h);have HC:=Hd (Dz w (Az k s n Ap ps.length cp Af fs.length cf Av vs.length cv) 26);have x0:(w.alloc (.cells (Az k s n Ap ps.length cp Af fs.length cf Av vs.length cv).toArray 26)).cell? ⟨w.heap.size,0,none⟩=some (.int .i64 k):=HC.o 0 _ rfl;have x1:(w.alloc (.cells (Az k s n Ap ps.length cp Af fs.length cf Av vs.length cv).toArray 26)).cell? ⟨w.heap.size,1,none⟩=some (.string s):=HC.o 1 _ rfl;have x3:(w.alloc (.cells (Az k s n Ap ps.length cp Af fs.length cf Av vs.length cv).toArray 26)).cell? ⟨w.heap.size,3,none⟩=some (.slice Ap ps.length cp):=HC.o 3 _ rfl;have x4:(w.alloc (.cells (Az k s n Ap ps.length cp Af fs.length cf Av vs.length cv).toArray 26)).cell? ⟨w.heap.size,4,none⟩=some (.slice Af fs.length cf):=HC.o 4 _ rfl;have HA:=Hd hA;have HN:=Hd (Gf k s n ps fs vs);have kB:=Hd hR;by_cases hk:k=22
 ·subst hk;have hP:Z9 (Bi (.mk 22 s n ps fs vs)=[s]):=Hd (by rw[HN.o,if_pos rfl]);have KA:=Hd (Ue (s:=s) kD.o hA hV.o.size (by rw[HN.o,if_pos rfl]at hR;simpa using hR));clear ht hb hO hA hR hU hT hp hf;go_enter Tryz.func79,Tryz.ntmps79;go_wp2_with fail;refine KA.o.mono ?_;rintro e w2 ⟨v2,l2,rfl,o2,a2,m2,n2,b2,f2⟩;go_wp2_with fail;go_ret
  refine⟨_,_,rfl,Ek.from ⟨o2,a2,fun x=>?_,?_,hV.o.trans b2,b2.size,f2⟩ hW.o⟩
  ·rw[m2,hP.o,List.mem_singleton,or_comm]
  ·rw[hP.o];exact n2
 ·have te:(k == 22)=false:=by simpa using hk
  have hY:Z9 (Bi (.mk k s n ps fs vs)=Cq k 0 ps++Dd fs):=Hd (by rw[HN.o,if_neg hk]);have HP:=Hd hp;have HF:=Hd hf;have kF:=Hd hU;have kE:=Hd hT;have kH:Z9 ((Value.slice As l.length c).ownBlock≠some w.heap.size):=Hd fun e=>by have:=(kG.o _ e).2;omega
  have HX:Z9 (∀v2 w2,Fr (.slice As l.length c) (w.alloc (.cells (Az k s n Ap ps.length cp Af fs.length cf Av vs.length cv).toArray 26)) v2 w2->w2.cell? ⟨w.heap.size,0,none⟩=some (.int .i64 k)/\w2.cell? ⟨w.heap.size,3,none⟩=some (.slice Ap ps.length cp)/\w2.cell? ⟨w.heap.size,4,none⟩=some (.slice Af fs.length cf)):=Hd fun v2 w2 h=>by
   have e:=h.keep w.heap.size (by simp) kH.o;exact⟨(World.cell?_of_block e).trans x0,(World.cell?_of_block e).trans x3,(World.cell?_of_block e).trans x4⟩
  have hZ:Z9 (Ek w0 (w.alloc (.cells (Az k s n Ap ps.length cp Af fs.length cf Av vs.length cv).toArray 26)) (.slice As l.length c) l [] (.slice As l.length c) (w.alloc (.cells (Az k s n Ap ps.length cp Af fs.length cf Av vs.length cv).toArray 26)) l):=Hd ⟨kD.o,HA.o,fun x=>by simp,by simp,hV.o,Nat.le_refl _,Fr.refl _ _⟩;clear ht hb hO hA hR hU hT hp hf hk;go_enter Tryz.func79,Tryz.ntmps79;go_wp2_with fail;have HW1:Z9 ((w.alloc (.cells (Az k s n Ap ps.length cp Af fs.length cf Av vs.length cv).toArray 26)).heap.size=w.heap.size+1):=Hd (by simp);generalize (w.alloc (.cells (Az k s n Ap ps.length cp Af fs.length cf Av vs.length cv).toArray 26))=w1 at *
  go_loopw [1,5] (fun ov iv wr=>∃(i:Nat) (N l1:List Z8),i<=ps.length/\iv=.int .i64 i/\N++Cq k i (ps.drop i)=Cq k 0 ps/\Ek w0 w1 (.slice As l.length c) l N ov wr l1) (fun _ v _=>ps.length - (intOf v).toNat)
  case atStart=>exact⟨0,[],l,by omega,rfl,by rw[List.drop_zero];rfl,hZ.o⟩
  case round=>
   obtain⟨i,N,l1,hi,rfl,he,hG⟩:=hrel;have hB:=Hd hG;have HE:=Hd he;have kI:Z9 (N.length+(Cq k i (ps.drop i)).length=(Cq k 0 ps).length):=Hd (by rw[<-he,List.length_append]);obtain⟨z0,z3,z4⟩:=HX.o _ _ hG.fr;have hL:Z9 (l1.length+(Cq k i (ps.drop i)).length+(Dd fs).length<=1099511627776):=Hd (by
    have h1:=hG.len;have h2:=kB.o;rw[hY.o,List.length_append]at h2;have h3:=kI.o;omega)
   obtain⟨A1,c1,rfl,-⟩:=hG.own.list (by have:=hL.o;omega);clear hG he;by_cases hF:i<ps.length
   ·have t1:decide ((i:Int)<(ps.length:Int))=true:=(by simp;omega);have hH:wrap64 ((i:Int)+1)=((i+1:Nat):Int):=Ba (by omega);have HM:=Hd (Bg hF);obtain⟨b,o,kA,_,hQ⟩:=kF.o.at (by omega);have hS:=hQ i hF;have hK:=HP.o _ (List.getElem_mem hF);have hC:=Hd (Lc (k:=k) hF);have hN:Z9 (i+1<=ps.length):=Hd hF;subst kA;generalize ps[i]=t at hS hK hC;obtain⟨cs,hD,hE⟩:=hS;obtain⟨k2,s2,n2,kK,kJ,kL⟩:=t;have KI:Z9 ((k == 21 && i == 1)=false->Calls Tryz.prog 79 #[.agg cs.toArray,.slice A1 l1.length c1] wr _):=Hd fun hq=>hK K w0 wr cs _ l1 hE hB.o.low hB.o.own hB.o.asc (by
     have h1:=hL.o;rw[hC.o,hq,if_neg (by decide),List.length_append]at h1;omega)
    obtain⟨Aq,cq,Ag,cg,Ah,ch,rfl,-⟩:=hE.inv;have y0:=Aa hB.o.low (hD 0 _ rfl);have y1:=Aa hB.o.low (hD 1 _ rfl);have y2:=Aa hB.o.low (hD 2 _ rfl);have y3:=Aa hB.o.low (hD 3 _ rfl);have y4:=Aa hB.o.low (hD 4 _ rfl);have y5:=Aa hB.o.low (hD 5 _ rfl);rw[Nat.add_zero]at y0;simp only[Az]at KI;clear hi hQ hK hD hE;by_cases hM:k=21
    ·have b21:(k != 21)=false:=(by simpa using hM);have E21:Z9 ((k == 21)=true):=Hd (by simpa using hM);clear hM;by_cases h1:i=1
     ·have b1:((i:Int) != 1)=false:=(by subst h1;rfl);have HQ:Z9 ((k == 21 && i == 1)=true):=Hd (by rw[E21.o,h1];rfl);clear KI h1;go_wp2_with fail;refine⟨⟨i+1,N,l1,hN.o,by first|rfl|rw[hH],?p1,hB.o⟩,?p3⟩
      case p1=>rw[<-HE.o,hC.o,HQ.o,if_pos rfl];rfl
      case p3=>first|exact HM.o|(rw[hH];exact HM.o)
     ·have b1:((i:Int) != 1)=true:=(by simp;omega);have HQ:Z9 ((k == 21 && i == 1)=false):=Hd (by rw[E21.o];simpa using h1);have hJ:Z9 (N++Cq k i (ps.drop i)=Cq k 0 ps):=HE;rw[hC.o]at hJ
      replace KI:=Hd (KI.o HQ.o)
      clear h1;go_wp2_with fail;refine (KI.o).mono ?_;rintro e w2 ⟨v2,l2,rfl,h2⟩;have hI:=Hd (hB.o.step h2);have kC:=Hd (HX.o _ _ hI.o.fr);clear h2 KI y0 y1 y2 y3 y4 y5;go_wp2_with fail;refine⟨⟨i+1,_,l2,hN.o,by first|rfl|rw[hH],?p1,hI.o⟩,?p3⟩
      case p1=>rw[<-hJ.o,HQ.o,if_neg (by decide),List.append_assoc]
      case p3=>first|exact HM.o|(rw[hH];exact HM.o)
    ·have b21:(k != 21)=true:=(by simpa using hM);have HQ:Z9 ((k == 21 && i == 1)=false):=Hd (by simp[hM]);have hJ:Z9 (N++Cq k i (ps.drop i)=Cq k 0 ps):=HE;rw[hC.o]at hJ
     replace KI:=Hd (KI.o HQ.o)
     clear hM;go_wp2_with fail;refine (KI.o).mono ?_;rintro e w2 ⟨v2,l2,rfl,h2⟩;have hI:=Hd (hB.o.step h2);have kC:=Hd (HX.o _ _ hI.o.fr);clear h2 KI y0 y1 y2 y3 y4 y5;go_wp2_with fail;refine⟨⟨i+1,_,l2,hN.o,by first|rfl|rw[hH],?p1,hI.o⟩,?p3⟩
     case p1=>rw[<-hJ.o,HQ.o,if_neg (by decide),List.append_assoc]
     case p3=>first|exact HM.o|(rw[hH];exact HM.o)
   ·have t1:decide ((i:Int)<(ps.length:Int))=false:=(by simp;omega);have hX:Z9 (N=Cq k 0 ps):=Hd (by rw[<-HE.o,List.drop_eq_nil_of_le (by omega),Cq,List.append_nil]);clear hi;go_wp2_with fail
    go_loopw [1,6] (fun ov iv wx=>∃(i:Nat) (N l1:List Z8),i<=fs.length/\iv=.int .i64 i/\N++Dd (fs.drop i)=Cq k 0 ps++Dd fs/\Ek w0 w1 (.slice As l.length c) l N ov wx l1) (fun _ v _=>fs.length - (intOf v).toNat)
    case atStart=>exact⟨0,N,l1,by omega,rfl,by rw[List.drop_zero,hX.o],hB.o⟩
    case round=>
     clear z0 z3 z4 hB hL;obtain⟨i,N,l1,hi,rfl,he,hG⟩:=hrel;have hB:=Hd hG;have HE:=Hd he;obtain⟨z0,z3,z4⟩:=HX.o _ _ hG.fr;have hL:Z9 (l1.length+(Dd (fs.drop i)).length<=1099511627776):=Hd (by
      have h1:=hG.len;have h2:=kB.o;rw[hY.o,<-he,List.length_append]at h2;omega)
     obtain⟨A1,c1,rfl,-⟩:=hG.own.list (by have:=hL.o;omega);clear hG he;by_cases hF:i<fs.length
     ·have t1:decide ((i:Int)<(fs.length:Int))=true:=(by simp;omega);have hH:wrap64 ((i:Int)+1)=((i+1:Nat):Int):=Ba (by omega);have HM:=Hd (Bg hF);obtain⟨b,o,kA,_,hQ⟩:=kE.o.at (by omega);have hS:=(hQ i hF).2.2.2;have hK:=HF.o _ (List.getElem_mem hF);have hC:=Hd (Lb hF);have hN:Z9 (i+1<=fs.length):=Hd hF;subst kA;generalize fs[i].2.2=t at hS hK hC;obtain⟨cs,hD,hE⟩:=hS;obtain⟨k2,s2,n2,kK,kJ,kL⟩:=t;have KI:=Hd (hK K w0 _ cs _ l1 hE hB.o.low hB.o.own hB.o.asc (by
       have h1:=hL.o;rw[hC.o,List.length_append]at h1;omega))
      have hJ:Z9 (N++Dd (fs.drop i)=Cq k 0 ps++Dd fs):=HE;rw[hC.o]at hJ;obtain⟨Aq,cq,Ag,cg,Ah,ch,rfl,-⟩:=hE.inv;have y0:=Aa hB.o.low (hD 0 _ rfl);have y1:=Aa hB.o.low (hD 1 _ rfl);have y2:=Aa hB.o.low (hD 2 _ rfl);have y3:=Aa hB.o.low (hD 3 _ rfl);have y4:=Aa hB.o.low (hD 4 _ rfl);have y5:=Aa hB.o.low (hD 5 _ rfl);rw[Nat.add_zero]at y0;simp only[Az]at KI;clear hi hQ hK hD hE;go_wp2_with fail;refine (KI.o).mono ?_;rintro e w2 ⟨v2,l2,rfl,h2⟩;have hI:=Hd (hB.o.step h2);have kC:=Hd (HX.o _ _ hI.o.fr);clear h2 KI y0 y1 y2 y3 y4 y5;go_wp2_with fail;refine⟨⟨i+1,_,l2,hN.o,by first|rfl|rw[hH],?p1,hI.o⟩,?p3⟩
      case p1=>rw[<-hJ.o,List.append_assoc]
      case p3=>first|exact HM.o|(rw[hH];exact HM.o)
     ·have t1:decide ((i:Int)<(fs.length:Int))=false:=(by simp;omega);have hX:Z9 (N=Cq k 0 ps++Dd fs):=Hd (by rw[<-HE.o,List.drop_eq_nil_of_le (by omega)];simp[Dd]);clear hi;go_wp2_with fail;go_ret
      refine⟨.slice A1 l1.length c1,l1,rfl,?_⟩;rw[hY.o,<-hX.o];exact Ek.from hB.o hW.o
theorem Jd (t:Ty):Xt t:=Ty.ind (C:=Xt) (fun k s n ps fs vs hp hf _=>Rp k s n ps fs vs hp hf) t
