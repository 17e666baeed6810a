import Derived.Test.YtlpfpehegddcfaaGreatDoorMw15
namespace Go.Proofs.YtlpfpehegddcfaaGreatDoor
set_option maxRecDepth 100000
set_option maxHeartbeats 64000000
open Go.RowKit
theorem Jge (t:Z8) (n:Int) (ps:List Ty) (fs:Bv) (vs:Bw):F4 (.mk 9 t n ps fs vs) (decide (0<=n)):=by
 intro K w b o h;obtain⟨A,c,A2,c2,A3,c3,⟨x0,x1,x2,x3,x4,x5⟩,ht,hP,hF,hV⟩:=h.six;clear h ht hP hF hV;go_enter Tryz.func96,Tryz.ntmps96;go_wp2_with fail;go_ret
 exact⟨rfl,Below.refl _ _⟩
theorem Jex (t:Z8) (n:Int) (ps:List Ty) (fs:Bv) (vs:Bw):F4 (.mk 16 t n ps fs vs) (Ca t):=by
 intro K w b o h;obtain⟨A,c,A2,c2,A3,c3,⟨x0,x1,x2,x3,x4,x5⟩,ht,hP,hF,hV⟩:=h.six;have KC:=Hd (Ex t w ht);generalize Ca t=r at KC ⊢;clear h ht hP hF hV;go_enter Tryz.func96,Tryz.ntmps96;go_wp2_with fail;refine KC.o.mono ?_;rintro e w2 ⟨rfl,hA⟩;have hB:=Hd hA;clear hA;go_wp2_with fail;go_ret
 exact⟨rfl,hB.o⟩
theorem Je1 (t:Z8) (n:Int) (ps:List Ty) (fs:Bv) (vs:Bw):F4 (.mk 22 t n ps fs vs) (Ca t):=by
 intro K w b o h;obtain⟨A,c,A2,c2,A3,c3,⟨x0,x1,x2,x3,x4,x5⟩,ht,hP,hF,hV⟩:=h.six;have KC:=Hd (Ex t w ht);generalize Ca t=r at KC ⊢;clear h ht hP hF hV;go_enter Tryz.func96,Tryz.ntmps96;go_wp2_with fail;refine KC.o.mono ?_;rintro e w2 ⟨rfl,hA⟩;have hB:=Hd hA;clear hA;go_wp2_with fail;go_ret
 exact⟨rfl,hB.o⟩
theorem Jey (t:Z8) (n:Int) (ps:List Ty) (fs:Bv) (vs:Bw):F4 (.mk 17 t n ps fs vs) (Ca t):=by
 intro K w b o h;obtain⟨A,c,A2,c2,A3,c3,⟨x0,x1,x2,x3,x4,x5⟩,ht,hP,hF,hV⟩:=h.six;have KC:=Hd (Ex t w ht);generalize Ca t=r at KC ⊢;clear h ht hP hF hV;go_enter Tryz.func96,Tryz.ntmps96;go_wp2_with fail;refine KC.o.mono ?_;rintro e w2 ⟨rfl,hA⟩;have hB:=Hd hA;clear hA;go_wp2_with fail;go_ret
 exact⟨rfl,hB.o⟩
theorem Jeu (t:Z8) (n:Int) (ps:List Ty) (fs:Bv) (vs:Bw) (fv:Ty->Bool) (hf:∀v∈vs,∀b∈v.2,Gi b (fv b)):F4 (.mk 13 t n ps fs vs) (Ef (Dh vs fv)):=by
 intro K w b o h;obtain⟨A,c,A2,c2,A3,c3,⟨x0,x1,x2,x3,x4,x5⟩,ht,hP,hF,hV⟩:=h.six;have KC:=Hd (Ny hV hf);generalize Ef (Dh vs fv)=r at KC ⊢;clear h ht hP hF hV hf;go_enter Tryz.func96,Tryz.ntmps96;go_wp2_with fail;refine KC.o.mono ?_;rintro e w2 ⟨rfl,hA⟩;have hB:=Hd hA;clear hA;go_wp2_with fail;go_ret
 exact⟨rfl,hB.o⟩
theorem Jev (t:Z8) (n:Int) (ps:List Ty) (fs:Bv) (vs:Bw) (fv:Ty->Bool) (hf:∀f∈fs,Gi f.2.2 (fv f.2.2)):F4 (.mk 14 t n ps fs vs) (Cd (Bn fs fv)):=by
 intro K w b o h;obtain⟨A,c,A2,c2,A3,c3,⟨x0,x1,x2,x3,x4,x5⟩,ht,hP,hF,hV⟩:=h.six;have KC:=Hd (Lg hF hf);generalize Cd (Bn fs fv)=r at KC ⊢;clear h ht hP hF hV hf;go_enter Tryz.func96,Tryz.ntmps96;go_wp2_with fail;refine KC.o.mono ?_;rintro e w2 ⟨rfl,hA⟩;have hB:=Hd hA;clear hA;go_wp2_with fail;go_ret
 exact⟨rfl,hB.o⟩
theorem Jez (t:Z8) (n:Int) (ps:List Ty) (fs:Bv) (vs:Bw):F4 (.mk 20 t n ps fs vs) (Ca t && decide (0<=n) && decide (n<=3)):=by
 intro K w b o h;obtain⟨A,c,A2,c2,A3,c3,⟨x0,x1,x2,x3,x4,x5⟩,ht,hP,hF,hV⟩:=h.six;have KC:=Hd (Ex t w ht);have hC:Z9 (∀wx,Below w.heap.size w wx->wx.cell? ⟨b,o+2,none⟩=some (.int .i64 n)):=Hd fun wx hx=>Aa hx x2;generalize Ca t=r at KC ⊢;clear h ht hP hF hV
 cases r with
 | false=>
  go_enter Tryz.func96,Tryz.ntmps96;go_wp2_with fail;refine KC.o.mono ?_;rintro e w2 ⟨rfl,hA⟩;have hB:=Hd hA;clear hA;go_wp2_with fail;go_ret
  exact⟨rfl,hB.o⟩
 | true=>
  by_cases h0:0<=n
  ·have e0:decide (0<=n)=true:=by simpa using h0
   have E0:=Hd e0;go_enter Tryz.func96,Tryz.ntmps96;go_wp2_with fail;refine KC.o.mono ?_;rintro e w2 ⟨rfl,hA⟩;have hB:=Hd hA;have y2:=hC.o _ hA;clear hA;go_wp2_with fail;go_ret
   exact⟨by rw[E0.o];first|rfl|simp,hB.o⟩
  ·have e0:decide (0<=n)=false:=by simpa using h0
   have e1:n<0:=by omega
   have E0:=Hd e0;go_enter Tryz.func96,Tryz.ntmps96;go_wp2_with fail;refine KC.o.mono ?_;rintro e w2 ⟨rfl,hA⟩;have hB:=Hd hA;have y2:=hC.o _ hA;clear hA;go_wp2_with fail;go_ret
   exact⟨by rw[E0.o];first|rfl|simp,hB.o⟩
theorem Je0 (t:Z8) (n:Int) (ps:List Ty) (fs:Bv) (vs:Bw):F4 (.mk 21 t n ps fs vs) ((n == 0 && t.toList == []) || (n == 1 && Ca t)):=by
 intro K w b o h;obtain⟨A,c,A2,c2,A3,c3,⟨x0,x1,x2,x3,x4,x5⟩,ht,hP,hF,hV⟩:=h.six;have KC:=Hd (Ex t w ht);generalize Ca t=r at KC ⊢;clear h ht hP hF hV;by_cases h0:n=0
 ·subst h0
  cases hl:t.toList with
  | nil=>
   go_enter Tryz.func96,Tryz.ntmps96;go_wp2_with fail;go_ret
   exact⟨rfl,Below.refl _ _⟩
  | cons a l=>
   go_enter Tryz.func96,Tryz.ntmps96;go_wp2_with fail;go_ret
   exact⟨rfl,Below.refl _ _⟩
 ·have e0:(n == 0)=false:=by simpa using h0
  have E0:=Hd e0;by_cases h1:n=1
  ·subst h1;go_enter Tryz.func96,Tryz.ntmps96;go_wp2_with fail;refine KC.o.mono ?_;rintro e w2 ⟨rfl,hA⟩;have hB:=Hd hA;clear hA;go_wp2_with fail;go_ret
   exact⟨by first|rfl|simp,hB.o⟩
  ·have e1:(n == 1)=false:=by simpa using h1
   have E1:=Hd e1;go_enter Tryz.func96,Tryz.ntmps96;go_wp2_with fail;go_ret
   exact⟨by rw[E0.o,E1.o];rfl,Below.refl _ _⟩
theorem Je2 (t:Z8) (n:Int) (ps:List Ty) (fs:Bv) (vs:Bw):F4 (.mk 23 t n ps fs vs) (ps.all fun p=>p.k == 13):=by
 intro K w b o h;obtain⟨A,c,A2,c2,A3,c3,⟨x0,x1,x2,x3,x4,x5⟩,ht,hP,hF,hV⟩:=h.six;have HP:=Hd hP;have hlp:=hP.short;clear h ht hP hF hV;go_enter Tryz.func96,Tryz.ntmps96;go_wp2_with fail
 go_loopw [101] (fun v wr=>∃(i:Nat),i<=ps.length/\v=.int .i64 i/\(ps.all fun p=>p.k == 13)=(ps.drop i).all (fun p=>p.k == 13)/\wr=w) (fun v _=>ps.length - (intOf v).toNat)
 case atStart=>exact⟨0,by omega,rfl,by rw[List.drop_zero],rfl⟩
 case round=>
  obtain⟨i,hi,rfl,he,rfl⟩:=hrel;have HE:=Hd he;clear he;by_cases hB:i<ps.length
  ·have t1:decide ((i:Int)<(ps.length:Int))=true:=by simp;omega
   have hD:wrap64 ((i:Int)+1)=((i+1:Nat):Int):=Ax (by omega);obtain⟨pb,po,hA,_,hr⟩:=HP.o.at (by omega);subst hA;obtain⟨q,hq,hH⟩:∃q,ps[i].k=q/\wr.cell? ⟨pb,po+i*6,none⟩=some (.int .i64 q):=by
    have h1:=hr i hB;generalize ps[i]=t at h1;obtain⟨k,s,n,ps,fs,vs⟩:=t;obtain⟨_,_,_,_,_,_,⟨x0,_⟩,_⟩:=h1.six;exact⟨k,rfl,x0⟩
   have HS:=Hd (Rl (p:=fun p:Ty=>p.k == 13) hB);have HM:=Hd (Bf hB);have hG:=Hd hB;by_cases hC:q=13
   ·have HK:Z9 (((ps[i]'hB).k == 13)=true):=Hd (by rw[hq];simpa using hC);have e13:(q != 13)=false:=(by simpa using hC);clear hr hi hq;go_wp2_with fail;refine⟨⟨i+1,hG.o,by first|rfl|rw[hD],by rw[HE.o,HS.o,HK.o];rfl,by first|rfl|trivial⟩,?_⟩;first|exact HM.o|(rw[hD];exact HM.o)
   ·have HK:Z9 (((ps[i]'hB).k == 13)=false):=Hd (by rw[hq];simpa using hC);have e13:(q != 13)=true:=(by simpa using hC);clear hr hi hq;go_wp2_with fail;go_ret
    exact⟨by rw[HE.o,HS.o,HK.o];rfl,Below.refl _ _⟩
  ·have t1:decide ((i:Int)<(ps.length:Int))=false:=by simp;omega
   have hE:Z9 ((ps.all fun p=>p.k == 13)=true):=Hd (by rw[HE.o,List.drop_eq_nil_of_le (by omega)];rfl);clear hi;go_wp2_with fail;go_ret
   exact⟨by rw[hE.o];rfl,Below.refl _ _⟩
theorem Je3 (k:Int) (t:Z8) (n:Int) (ps:List Ty) (fs:Bv) (vs:Bw) (h9:k≠9) (hA:k≠13) (hB:k≠14) (hC:k≠15) (hD:k≠16) (hE:k≠17) (hF:k≠20) (hG:k≠21) (hH:k≠22) (hI:k≠23):F4 (.mk k t n ps fs vs) true:=by
 intro K w b o h;obtain⟨A,c,A2,c2,A3,c3,⟨x0,x1,x2,x3,x4,x5⟩,-⟩:=h.six;have t9:(k == 9)=false:=by simpa using h9
 have t13:(k == 13)=false:=by simpa using hA
 have t14:(k == 14)=false:=by simpa using hB
 have t15:(k == 15)=false:=by simpa using hC
 have t16:(k == 16)=false:=by simpa using hD
 have t17:(k == 17)=false:=by simpa using hE
 have t20:(k == 20)=false:=by simpa using hF
 have t21:(k == 21)=false:=by simpa using hG
 have t22:(k == 22)=false:=by simpa using hH
 have t23:(k == 23)=false:=by simpa using hI
 clear h h9 hA hB hC hD hE hF hG hH hI;go_enter Tryz.func96,Tryz.ntmps96;go_wp2_with fail;go_ret
 exact⟨rfl,Below.refl _ _⟩
theorem Jb5 (k:Int) (t:Z8) (n:Int) (ps:List Ty) (fs:Bv) (vs:Bw) (fv:Ty->Bool) (hf:∀f∈fs,Gi f.2.2 (fv f.2.2)) (hv:∀v∈vs,∀b∈v.2,Gi b (fv b)) :
  F4 (.mk k t n ps fs vs) (Bq k t n ps (Cd (Bn fs fv)) (Ef (Dh vs fv))):=by
 unfold Bq;by_cases h9:k=9
 ·subst h9;exact Jge t n ps fs vs
 rw[if_neg h9];by_cases hG:k=16
 ·subst hG;exact Jex t n ps fs vs
 by_cases hI:k=22
 ·subst hI;exact Je1 t n ps fs vs
 by_cases hH:k=17
 ·subst hH;exact Jey t n ps fs vs
 rw[if_neg (by omega)];by_cases hA:k=13
 ·subst hA;exact Jeu t n ps fs vs fv hv
 rw[if_neg hA];by_cases hB:k=14
 ·subst hB;exact Jev t n ps fs vs fv hf
 rw[if_neg hB];by_cases hC:k=15
 ·subst hC;exact Jew t n ps fs vs
 rw[if_neg hC];by_cases hD:k=20
 ·subst hD;exact Jez t n ps fs vs
 rw[if_neg hD];by_cases hE:k=21
 ·subst hE;exact Je0 t n ps fs vs
 rw[if_neg hE];by_cases hF:k=23
 ·subst hF;exact Je2 t n ps fs vs
 rw[if_neg hF];exact Je3 k t n ps fs vs h9 hA hB hC hG hH hD hE hI hF
theorem Jax (t:Ty):Gi t (Ai t):=Ty.ind (C:=fun t=>Gi t (Ai t)) (fun k t n ps fs vs hp hf hv=>by
 rw[Aw];exact Yc k t n ps fs vs _ Ai (Jb5 k t n ps fs vs Ai hf hv) hp) t
def Co (t:Ty):Bool:=decide (Am t<=4096) && Ai t
theorem Fc {K:Nat->Prop}{w:World}{t:Ty}{cs:List Value}(h:An K w t cs) :
  Calls Tryz.prog 35 #[.agg cs.toArray] w fun e w'=>e=.returned (.bool (Co t))/\Below w.heap.size w w':=Uf h (Jax t)
def Rh (l:List Z8):Prop:=l.Pairwise fun a b=>Dt a b = -1
theorem Tv {a b c:Z8}(h1:Dt a b = -1) (h2:Dt b c = -1):Dt a c = -1:=H6.2 (List.lt_trans (H6.1 h1) (H6.1 h2))
theorem Jg7 {F:List Z8}{t:Z8}{k:Nat}(hA:Rh F) (hk:k<=F.length) (hE:∀j (h:j<F.length),k<=j->Dt F[j] t=1) (hD:∀j (h:j<F.length),j+1=k->Dt F[j] t = -1):Rh (F.take k++t :: F.drop k):=by
 have hC:∀i (hi:i<F.length),i<k->Dt F[i] t = -1:=fun i hi hF=>by
  rcases Nat.lt_or_ge (i+1) k with h|h
  ·have h1:=hD (k - 1) (by omega) (by omega);have h2:=List.pairwise_iff_getElem.1 hA i (k - 1) hi (by omega) (by omega);exact Tv h2 h1
  ·exact hD i hi (by omega)
 have hB:=hA;unfold Rh at hB;rw[<-List.take_append_drop k F,List.pairwise_append]at hB;obtain⟨h1,h2,h3⟩:=hB;refine List.pairwise_append.2 ⟨h1,List.pairwise_cons.2 ⟨fun b hb=>?_,h2⟩,fun a ha b hb=>?_⟩
 ·obtain⟨j,hj,rfl⟩:=List.getElem_of_mem hb;rw[List.getElem_drop];have:=hE (k+j) (by simp at hj;omega) (by omega);rw[Pc,this]
 ·rcases List.mem_cons.1 hb with rfl|hb
  ·obtain⟨j,hj,rfl⟩:=List.getElem_of_mem ha;rw[List.getElem_take];exact hC _ (by simp at hj;omega) (by simp at hj;omega)
  ·exact h3 a ha b hb
theorem Jg1 {F:List Z8}{t:Z8}{k:Nat}(x:Z8):x∈F.take k++t :: F.drop k↔x=t\/x∈F:=by
 rw[List.mem_append,List.mem_cons]
 constructor
 ·rintro (h|h|h)
  ·exact .inr (List.mem_of_mem_take h)
  ·exact .inl h
  ·exact .inr (List.mem_of_mem_drop h)
 ·rintro (h|h)
  ·exact .inr (.inl h)
  ·rw[<-List.take_append_drop k F]at h;rcases List.mem_append.1 h with h|h
   ·exact .inl h
   ·exact .inr (.inr h)
theorem Ig:(Tryz.prog.info? 9).map (fun i=>(i.zero,i.size,i.bytes))=some (some (.string ⟨#[]⟩),1,16):=by kernel_rfl
theorem D5.list {B:Nat}{w:World}{v:Value}{l:List Z8}(h:D5 B w v l) (hl:l.length<=1000000000000000):∃A c,v=.slice A l.length c/\Cm w l A:=by
 rcases h.of with ⟨rfl,rfl⟩|⟨g,c,rfl,hg,hs⟩
 ·exact⟨none,0,rfl,⟨0,0,fun h=>absurd h (by simp),by simp,fun i h=>absurd h (by simp)⟩⟩
 ·exact⟨_,_,rfl,hs.list hl⟩
structure Fr (v:Value) (w:World) (v':Value) (w':World):Prop where
 keep:∀b,b<w.heap.size->v.ownBlock≠some b->w'.heap[b]?=w.heap[b]?
 own:v'.ownBlock=v.ownBlock\/∃b,v'.ownBlock=some b/\w.heap.size<=b
theorem Fr.refl (v:Value) (w:World):Fr v w v w:=⟨fun _ _ _=>rfl,.inl rfl⟩
theorem Fr.trans {v v1 v2:Value}{w w1 w2:World}(h:Fr v w v1 w1) (h':Fr v1 w1 v2 w2) (hs:w.heap.size<=w1.heap.size):Fr v w v2 w2:=by
 refine⟨fun b hb hn=>?_,?_⟩
 ·refine (h'.keep b (by omega) ?_).trans (h.keep b hb hn);rcases h.own with e|⟨c,e,hc⟩
  ·rw[e];exact hn
  ·rw[e];intro e2;injection e2 with e2;omega
 ·rcases h'.own with e|⟨c,e,hc⟩
  ·rw[e];exact h.own
  ·exact .inr ⟨c,e,by omega⟩
theorem Fr.world {v v':Value}{w w0 w':World}(h:Fr v w v' w') (hb:Below w0.heap.size w0 w):Fr v w0 v' w':=
 ⟨fun b hA hn=>(h.keep b (Nat.lt_of_lt_of_le hA hb.size) hn).trans (hb.block b hA),h.own.imp id fun ⟨b,e,hc⟩=>⟨b,e,Nat.le_trans hb.size hc⟩⟩
def Vh (v:Value) (B:Nat) (w:World) (l:List Z8) (s:Z8):Ending->World->Prop:=fun e w'=>∃v' l',e=.returned v'/\D5 B w' v' l'/\Rh l'/\(∀x,x∈l'↔x=s\/x∈l)/\l'.length<=l.length+1/\Below B w w'/\Fr v w v' w'
theorem Ej {l:List Z8}{s:Z8}:Dp l s=true↔s∈l:=by
 unfold Dp;rw[List.any_eq_true]
 constructor
 ·rintro⟨x,hx,h⟩;have:=of_decide_eq_true h;rw[<-this];exact hx
 ·exact fun h=>⟨s,h,decide_eq_true rfl⟩
theorem Jc4 {B:Nat}{w:World}{v:Value}{l:List Z8}{s:Z8}(hO:D5 B w v l) (hA:Rh l) (hB:B<=w.heap.size) (kL:l.length+1<=1099511627776) :
  Calls Tryz.prog 77 #[v,.string s] w (Vh v B w l s):=by
 obtain⟨A,c,rfl,hL⟩:=hO.list (by omega);have KI:=Hd (Jf3 (c:=c) hL s);have HO:=Hd hO;have kD:=Hd kL;have HA:=Hd hA;have HB:=Hd hB;have aJ:l.length<=1099511627776:=by omega
 obtain⟨i0,aA,aC,aD,aE⟩:=Ec Ig;unfold Vh;clear hL hO hA hB kL
 cases hM:Dp l s with
 | true=>
  have HM:=Hd (Ej.1 hM);rw[hM]at KI;go_enter Tryz.func77,Tryz.ntmps77;go_wp2_with fail;refine KI.o.mono ?_;rintro e w2 ⟨rfl,rfl⟩;go_wp2_with fail;go_ret
  exact⟨_,l,rfl,HO.o,HA.o,fun x=>⟨.inr,fun h=>h.elim (fun e=>e ▸ HM.o) id⟩,by omega,Below.refl _ _,Fr.refl _ _⟩
 | false=>
  have HN:Z9 (¬ s∈l):=Hd (fun h=>by rw[Ej.2 h]at hM;cases hM);rw[hM]at KI;clear hM;have hN:Z9 ((w.alloc (.cells #[.string s] 9)).ownsRow B 9 1 (.slice A l.length c) l.length (l.map .string)):=Hd (HO.o.later ((Below.refl _ _).alloc (Nat.le_refl _) _));have kU:=Hd (D6 w [.string s] 9);have kH:Z9 ((l++[s]).length=l.length+1):=Hd (by simp);go_enter Tryz.func77,Tryz.ntmps77;go_wp2_with fail;refine KI.o.mono ?_;rintro e w2 ⟨rfl,rfl⟩;go_wp2_with (at_builtin;refine wpList_plain rfl fun K hK=>?_;go_loud (refine B5 _ _ 46 rfl B 9 i0 (.string ⟨#[]⟩) 1 16 Tryz.underlying46 aA aC aD aE rfl (by decide) _ _ _ rfl hN.o ⟨w2.heap.size,0,none⟩ 1 1 [.string s] rfl rfl ?a0 ?a1 ?a2 ?a3 ?a4 ?_))
  case a0=>exact kU.o
  case a1=>
   intro u hu;simp only[List.mem_cons,List.not_mem_nil,or_false]at hu;rw[hu];rfl
  case a2=>have:=kD.o;unfold maxLen;omega
  case a3=>have:=kD.o;omega
  case a4=>have:=HB.o;simp only[World.size_alloc];omega
  intro v5 w5 hI hZ _ hD;refine hK _ _ ?_;clear hK K;have kP:D5 B w5 v5 (l++[s]):=by
   unfold D5;rw[kH.o,List.map_append];exact hI
  have kK:Below B w2 w5:=((Below.refl B w2).alloc HB.o _).grown hZ (by have:=HB.o;simp only[World.size_alloc];omega) fun k hk=>(hN.o.lt k hk).1;rcases kP.of with ⟨-,kC⟩|⟨g5,c5,rfl,hS,hT⟩
  ·exact absurd kC (by simp)
  have hX:=Hd hT;have hW:=Hd hS;have kS:=Hd kK;have hR:∀b,b<w2.heap.size->(Value.slice A l.length c).ownBlock≠some b->b≠g5:=fun b hb hn e=>by
   rcases hD with h|h
   ·exact hn (by rw[<-h,e];rfl)
   ·have h2:g5=w2.heap.size+1:=(by first|exact Option.some.inj h|(have h3:=Option.some.inj h;simpa using h3));omega
  have kW:=Hd hR;have hY:Z9 ((Value.slice (some ⟨g5,0,none⟩) (l.length+1) c5).ownBlock=(Value.slice A l.length c).ownBlock\/∃b,(Value.slice (some ⟨g5,0,none⟩) (l.length+1) c5).ownBlock=some b/\w2.heap.size<=b):=Hd (by
   rcases hD with h|h
   ·exact .inl h
   ·have h2:g5=w2.heap.size+1:=(by first|exact Option.some.inj h|(have h3:=Option.some.inj h;simpa using h3));exact .inr ⟨g5,rfl,by omega⟩)
  have kY:Z9 (∀b,b<w2.heap.size->(Value.slice A l.length c).ownBlock≠some b->w5.heap[b]?=w2.heap[b]?):=Hd fun b hb hn=>(hZ.block b (by simp only[World.size_alloc];omega) hn.symm).trans (Below.heap_alloc _ _ _ hb);rw[kH.o];have aF:wrap64 (((l.length+1:Nat):Int) - 1)=((l.length:Nat):Int):=by rw[Cq (by omega) (by omega)];omega
  clear hI hZ kP kK hT hS hD hR;go_wp2_with fail
  go_loopw [5] (fun v wr=>∃(k:Nat) (x:Z8),k<=l.length/\v=.int .i64 k/\G6 wr g5 c5 (l.take k++x :: l.drop k)/\(∀j (h:j<l.length),k<=j->Dt l[j] s=1)/\Below B w2 wr/\(∀b,b<w2.heap.size->(Value.slice A l.length c).ownBlock≠some b->wr.heap[b]?=w2.heap[b]?)) (fun v _=>(intOf v).toNat)
  case atStart=>exact⟨l.length,s,Nat.le_refl _,by first|rfl|rw[aF],by rw[List.take_length,List.drop_length];exact hX.o,fun j h hj=>absurd h (by omega),kS.o,kY.o⟩
  case round=>
   obtain⟨k,x,kB,rfl,hC,kA,hQ,kO⟩:=hrel;have kG:Z9 (∀j y,∀b,b<w2.heap.size->(Value.slice A l.length c).ownBlock≠some b->(wr.setCell ⟨g5,j,none⟩ y).heap[b]?=w2.heap[b]?):=Hd fun j y b hb hn=>(Below.heap_setCell _ _ _ _ (kW.o b hb hn)).trans (kO b hb hn);clear kO;have kF:=Hd kA;have aG:=Hd hQ;have hG:(l.take k).length=k:=by simp;omega
   have hH:=hC.set (s:=s);rw[hG]at hH;have aH:=hC.reps k x (by rw[List.getElem?_append_right (by omega),hG,Nat.sub_self];rfl);obtain⟨cur,hJ,-⟩:=hC.blk;have aI:∀o,wr.frozen? ⟨g5,o,none⟩=false:=fun o=>Lib.frozen_of_heap hJ o;have hF:Z9 ((∀j (h:j<l.length),j+1=k->Dt l[j] s = -1)->∃v' l',Ending.returned (.slice (some ⟨g5,0,none⟩) (l.length+1) c5)=.returned v'/\D5 B (wr.setCell ⟨g5,k,none⟩ (.string s)) v' l'/\Rh l'/\(∀x,x∈l'↔x=s\/x∈l)/\l'.length<=l.length+1/\Below B w2 (wr.setCell ⟨g5,k,none⟩ (.string s))/\Fr (.slice A l.length c) w2 v' (wr.setCell ⟨g5,k,none⟩ (.string s))):=Hd fun aB=>by
    have hl:(l.take k++s :: l.drop k).length=l.length+1:=(by simp;omega);have h1:=hH.o hW.o;rw[hl]at h1;exact⟨_,_,rfl,h1,Jg7 HA.o kB kF.o aB,Jg1,by omega,hQ.setCell hW.o _,kG.o _ _,hY.o⟩
   have i2:(k:Int)<(l.length:Int)+1:=by omega
   have i3:(0:Int)<=(k:Int):=by omega
   by_cases kN:k=0
   ·subst kN;have hV:=Hd (hF.o fun j _ hj=>absurd hj (by omega));clear kB hC kA hQ hG hH hJ hF;go_wp2_with fail;go_ret
    exact hV.o
   ·obtain⟨j,rfl⟩:∃j,k=j+1:=⟨k - 1,by omega⟩;have hU:j<l.length:=(by omega);have kZ:=hC.reps j l[j] (by rw[List.getElem?_append_left (by omega),List.getElem?_take,if_pos (by omega)];exact List.getElem?_eq_getElem hU);have hE:=hC.set (s:=l[j]);rw[hG]at hE;have hP:Z9 (G6 (wr.setCell ⟨g5,j+1,none⟩ (.string l[j])) g5 c5 (l.take j++l[j] :: l.drop j)):=Hd (by
     have e1:l.take (j+1)=l.take j++[l[j]]:=List.take_succ_eq_append_getElem hU;rw[e1,List.append_assoc]at hE;rw[List.drop_eq_getElem_cons hU];exact hE)
    have kJ:Z9 (l[j]≠s):=Hd fun e=>HN.o (e ▸ List.getElem_mem hU);have kE:Z9 (Dt l[j] s=1->∀a (h:a<l.length),j<=a->Dt l[a] s=1):=Hd fun e a h ha=>by
     rcases Nat.lt_or_ge j a with h1|h1
     ·exact kF.o a h (by omega)
     ·have:a=j:=by omega
      subst this;exact e
    have kI:Z9 (Dt l[j] s = -1->∀a (h:a<l.length),a+1=j+1->Dt l[a] s = -1):=Hd fun e a h ha=>by
     have:a=j:=by omega
     subst this;exact e
    have kT:=Hd (fun y=>hQ.setCell (p:=⟨g5,j+1,none⟩) hW.o y);have kX:Z9 (j<=l.length):=Hd (by omega);have kM:=H5 l[j] s;generalize l[j]=y at kZ hP kJ kE kI kM;have kQ:wrap64 (((j+1:Nat):Int) - 1)=((j:Nat):Int):=(by rw[Cq (by omega) (by omega)];omega);have kR:wrap64 (j:Int)=(j:Int):=Cq (by omega) (by omega);have i4:(0:Int)<=(j:Int):=(by omega);have i5:(j:Int)<(l.length:Int)+1:=(by omega);have i6:(j:Int)+1<(l.length:Int)+1:=(by omega);clear kB hC kA hQ hG hH hE hJ kN hU;rcases kM with ⟨ga,gb,ge⟩|⟨ga,gb,ge⟩|⟨ga,gb,ge⟩
    ·have hV:=Hd (hF.o (kI.o ge));clear hF ge;go_wp2_with fail;go_ret
     exact hV.o
    ·have kV:=Hd (kE.o ge);clear hF ge;go_wp2_with fail;refine⟨⟨j,y,kX.o,by first|rfl|(rw[kQ])|(rw[kR]),hP.o,kV.o,kT.o _,kG.o _ _⟩,?_⟩;first|(simp only[intOf];omega)|(rw[kQ];simp only[intOf];omega)|(rw[kR];simp only[intOf];omega)
    ·exact absurd (Pd ge) kJ.o
theorem Z7:Jfj:=fun K w0 w g c s h hb hg hs=>by
 by_cases h2:s.length<2
 ·exact Tx h hb h2
 ·exact Xh h hb hg (by omega) hs
theorem L3 {K:Nat->Prop}{w:World}{l:List Ty}{A:Option Addr}{c:Nat}(hL:Bh K w l A c) (hA:(Bk l).length<=1099511627776) (hB:∀b,K b->b<w.heap.size) :
  Calls Tryz.prog 68 #[.slice A l.length c] w (Hh K w l):=Za Jcp Jcq Z7 Γ hL hA hB
theorem Wp:Jw:=fun _ _ _ _ _ hL hn hA=>L3 hL hn hA
open Go.RowKit Go.Sort
theorem P5:I3 []=[]:=List.eq_nil_of_length_eq_zero (Nat.le_zero.1 (Lv []))
theorem Wg {B:Nat}{w:World}{v:Value}{l:List Z8}(h:w.ownsRow B 9 1 v l.length (l.map .string)):D5 B w v l:=h
def Mt (l:List Z8):List Z8:=((l.map (·.data.toList)).mergeSort fun x y=>decide (x<=y)).map fun x=>⟨x.toArray⟩
theorem Y3 (l:List Z8):(Mt l).map Value.string=((l.map (·.data.toList)).mergeSort fun x y=>decide (x<=y)).map encStr:=by
 unfold Mt;rw[List.map_map];rfl
theorem Lx (l:List Z8):(Mt l).length=l.length:=by unfold Mt;simp
theorem Y2 (l:List Z8):(Mt l).map (·.data.toList)=(l.map (·.data.toList)).mergeSort fun x y=>decide (x<=y):=by
 unfold Mt;rw[List.map_map];exact List.map_id' _
theorem Jco {B:Nat}{w:World}{g c:Nat}{l:List Z8}(hs:G6 w g c l) (hb:B<=g) (hn:l.length<=1000000000) :
  Calls Tryz.prog 133 #[.slice (some ⟨g,0,none⟩) l.length c] w fun e w'=>e=.returned (.tuple #[])/\G6 w' g c (Mt l)/\w.grownBy w' (some g):=by
 have ho:=hs.o hb;obtain⟨cur,h1,h2⟩:=hs.blk;have h3:w.ownsRow B 9 1 (.slice (some ⟨g,0,none⟩) l.length c) l.length ((l.map (·.data.toList)).map encStr):=by rw[Lib.map_encStr l];exact ho
 obtain⟨g',cap,hv,_,hB,_,_,_,hH⟩:=Lib.holds_of_ownsRow h3 (by intro h;cases h);injection hv with hA _ hC
 injection hA with hA
 injection hA with hA
 subst hA;have main:=Any.slices_Sort_string Jgu g 0 c (l.map (·.data.toList)) w hH hB (by rw[List.length_map];omega);rw[List.length_map]at main;refine main.mono ?_;rintro e w' ⟨rfl,n,os,rfl⟩;refine⟨rfl,?_,grownBy_sorted _⟩;have h4:=ownsRow_sorted (w:=w) (base:=B) (cap:=c) (n:=n) (os:=os) (ss:=l.map (·.data.toList)) (ts:=(l.map (·.data.toList)).mergeSort fun x y=>decide (x<=y)) (by simp) hb h1 (by rw[List.length_map];exact hs.le) hs.mx (by omega);rw[List.length_map,<-Y3]at h4;have h5:=Wg (l:=Mt l) (by rw[Lx];exact h4);rcases h5.of with ⟨h6,_⟩|⟨g2,c2,h6,_,h7⟩
 ·cases h6
 ·injection h6 with h8 _ h9
  injection h8 with h8
  injection h8 with h8
  subst h8;subst h9;exact h7
theorem O2 {B:Nat}{w:World}{g c:Nat}{l:List Z8}(hs:G6 w g c l) (hb:B<=g) (hn:l.length<=1000000000) :
  Calls Tryz.prog 134 #[.slice (some ⟨g,0,none⟩) l.length c] w fun e w'=>e=.returned (.slice (some ⟨g,0,none⟩) ((Lib.compact (l.map (·.data.toList))).map fun x=>(⟨x.toArray⟩:Z8)).length c)/\G6 w' g c ((Lib.compact (l.map (·.data.toList))).map fun x=>⟨x.toArray⟩)/\Below B w w':=by
 have ho:=hs.o hb;have h3:w.ownsRow B 9 1 (.slice (some ⟨g,0,none⟩) l.length c) l.length ((l.map (·.data.toList)).map encStr):=by rw[Lib.map_encStr l];exact ho
 obtain⟨g',cap,hv,_,hC,_,_,_,hH⟩:=Lib.holds_of_ownsRow h3 (by intro h;cases h);injection hv with hA _ hD
 injection hA with hA
 injection hA with hA
 subst hA;have hB:(Lib.compact (l.map (·.data.toList))).length<=l.length:=by
  unfold Lib.compact Lib.compactUpTo;rw[List.length_map];refine Nat.le_trans (List.length_filter_le _ _) ?_;rw[List.length_range,List.length_map];omega
 have main:=Any.slices_Compact_string Δ g 0 c (l.map (·.data.toList)) w hH (by rw[List.length_map];omega) (by rw[List.length_map];exact hs.le);rw[List.length_map]at main;refine main.mono ?_;rintro e w' ⟨rfl,q,rfl⟩;refine⟨by rw[List.length_map],?_,Lib.below_putRow (Below.refl _ _) hb⟩;have h4:=Lib.ownsRow_putRow (q:=q) (k:=(Lib.compact (l.map (·.data.toList))).length) (ys:=Lib.compact (l.map (·.data.toList))++List.replicate (l.length - (Lib.compact (l.map (·.data.toList))).length) []) h3 (by rw[List.length_append,List.length_replicate];omega) hB;rw[List.take_left']at h4;rotate_left
 ·rfl
 have h5:=Wg (l:=(Lib.compact (l.map (·.data.toList))).map fun x=>(⟨x.toArray⟩:Z8)) (by rw[List.length_map,List.map_map];exact h4);rcases h5.of with ⟨h6,_⟩|⟨g2,c2,h6,_,h7⟩
 ·cases h6
 ·injection h6 with h8 _ h9
  injection h8 with h8
  injection h8 with h8
  subst h8;subst h9;exact h7
structure Jgw (K:Nat->Prop) (w:World) (k:Int) (s:Z8) (n:Int) (ps:List Ty) (fs:Bv) (vs:Bw) (k3:Int) (s3:Z8) (n3:Int) (ps3:List Ty) (fs3:Bv) (vs3:Bw) (A:Option Addr) (c:Nat) (A':Option Addr) (c':Nat) (A'':Option Addr) (c'':Nat) (A3:Option Addr) (c3:Nat) (B3:Option Addr) (d3:Nat) (C3:Option Addr) (e3:Nat) (w1:World) (g:Nat):Prop where
 HB1:Z9 (Below w.heap.size w w1)
 HS1:Z9 (w1.heap.size=w.heap.size+3)
 HX0:Z9 (w1.heap[w.heap.size]?=some (.cells #[.int .i64 k,.string s,.int .i64 n,.slice A ps.length c,.slice A' fs.length c',.slice A'' vs.length c''] 26 (0,0)))
 HY0:Z9 (w1.heap[w.heap.size+1]?=some (.cells #[.int .i64 k3,.string s3,.int .i64 n3,.slice A3 ps3.length c3,.slice B3 fs3.length d3,.slice C3 vs3.length e3] 26 (0,0)))
 HX1:Z9 (w1.heap[g]?=some (.cells #[.int .i64 0,.string ⟨#[]⟩,.int .i64 0,.slice none 0 0,.slice none 0 0,.slice none 0 0] 26 (0,0)))
 HW1:Z9 (w1=((w.alloc (.cells #[.int .i64 k,.string s,.int .i64 n,.slice A ps.length c,.slice A' fs.length c',.slice A'' vs.length c''] 26)).alloc (.cells #[.int .i64 k3,.string s3,.int .i64 n3,.slice A3 ps3.length c3,.slice B3 fs3.length d3,.slice C3 vs3.length e3] 26)).alloc (.cells #[.int .i64 0,.string ⟨#[]⟩,.int .i64 0,.slice none 0 0,.slice none 0 0,.slice none 0 0] 26))
 HG:Z9 (g=w.heap.size+2)
 HR:Z9 (An K w (.mk k s n ps fs vs) [.int .i64 k,.string s,.int .i64 n,.slice A ps.length c,.slice A' fs.length c',.slice A'' vs.length c''])
 HP:Z9 (An K w (.mk k3 s3 n3 ps3 fs3 vs3) [.int .i64 k3,.string s3,.int .i64 n3,.slice A3 ps3.length c3,.slice B3 fs3.length d3,.slice C3 vs3.length e3])
 HL:Z9 (Bh K w ps A c)
 HL3:Z9 (Bh K w ps3 A3 c3)
 HLO1:Z9 (∀b,K b->b<w1.heap.size)
 hlp:ps.length<=1000000000000000
 hlp3:ps3.length<=1000000000000000
theorem Jfv {K:Nat->Prop}{w:World}{k:Int}{s:Z8}{n:Int}{ps:List Ty}{fs:Bv}{vs:Bw}{k3:Int}{s3:Z8}{n3:Int}{ps3:List Ty}{fs3:Bv}{vs3:Bw}{cs ds:List Value}{R:Ending->World->Prop}(hr:An K w (.mk k s n ps fs vs) cs) (hp:An K w (.mk k3 s3 n3 ps3 fs3 vs3) ds) (hE:∀b,K b->b<w.heap.size)
  (main:∀(A:Option Addr) (c:Nat) (A':Option Addr) (c':Nat) (A'':Option Addr) (c'':Nat) (A3:Option Addr) (c3:Nat) (B3:Option Addr) (d3:Nat) (C3:Option Addr) (e3:Nat) (w1:World) (g:Nat),cs=[.int .i64 k,.string s,.int .i64 n,.slice A ps.length c,.slice A' fs.length c',.slice A'' vs.length c'']->ds=[.int .i64 k3,.string s3,.int .i64 n3,.slice A3 ps3.length c3,.slice B3 fs3.length d3,.slice C3 vs3.length e3]->Jgw K w k s n ps fs vs k3 s3 n3 ps3 fs3 vs3 A c A' c' A'' c'' A3 c3 B3 d3 C3 e3 w1 g->Calls Tryz.prog 85 #[.agg #[.int .i64 k,.string s,.int .i64 n,.slice A ps.length c,.slice A' fs.length c',.slice A'' vs.length c''],.agg #[.int .i64 k3,.string s3,.int .i64 n3,.slice A3 ps3.length c3,.slice B3 fs3.length d3,.slice C3 vs3.length e3]] w R) :
  Calls Tryz.prog 85 #[.agg cs.toArray,.agg ds.toArray] w R:=by
 obtain⟨A,c,A',c',A'',c'',rfl,-,hL,-,-⟩:=hr.inv;obtain⟨A3,c3,B3,d3,C3,e3,rfl,-,hB,-,-⟩:=hp.inv;simp only[Ao]at hr hp ⊢;obtain⟨w1,hA⟩:∃x,x=((w.alloc (.cells #[.int .i64 k,.string s,.int .i64 n,.slice A ps.length c,.slice A' fs.length c',.slice A'' vs.length c''] 26)).alloc (.cells #[.int .i64 k3,.string s3,.int .i64 n3,.slice A3 ps3.length c3,.slice B3 fs3.length d3,.slice C3 vs3.length e3] 26)).alloc (.cells #[.int .i64 0,.string ⟨#[]⟩,.int .i64 0,.slice none 0 0,.slice none 0 0,.slice none 0 0] 26):=⟨_,rfl⟩;obtain⟨g,hC⟩:∃g,g=w.heap.size+2:=⟨_,rfl⟩;have hD:Below w.heap.size w w1:=by rw[hA];exact (((Below.refl _ _).alloc (Nat.le_refl _) _).alloc (by simp) _).alloc (by simp;omega) _
 have hF:w1.heap.size=w.heap.size+3:=by rw[hA];simp
 have hG:w1.heap[w.heap.size]?=some (.cells #[.int .i64 k,.string s,.int .i64 n,.slice A ps.length c,.slice A' fs.length c',.slice A'' vs.length c''] 26 (0,0)):=by rw[hA,Below.heap_alloc _ _ _ (by simp;omega),Below.heap_alloc _ _ _ (by simp)];exact heap_alloc_new w _
 have hI:w1.heap[w.heap.size+1]?=some (.cells #[.int .i64 k3,.string s3,.int .i64 n3,.slice A3 ps3.length c3,.slice B3 fs3.length d3,.slice C3 vs3.length e3] 26 (0,0)):=by
  rw[hA,Below.heap_alloc _ _ _ (by simp)];have h:=heap_alloc_new (w.alloc (.cells #[.int .i64 k,.string s,.int .i64 n,.slice A ps.length c,.slice A' fs.length c',.slice A'' vs.length c''] 26)) (.cells #[.int .i64 k3,.string s3,.int .i64 n3,.slice A3 ps3.length c3,.slice B3 fs3.length d3,.slice C3 vs3.length e3] 26);rw[World.size_alloc]at h;exact h
 have hH:w1.heap[g]?=some (.cells #[.int .i64 0,.string ⟨#[]⟩,.int .i64 0,.slice none 0 0,.slice none 0 0,.slice none 0 0] 26 (0,0)):=by
  rw[hA,hC];have h:=heap_alloc_new ((w.alloc (.cells #[.int .i64 k,.string s,.int .i64 n,.slice A ps.length c,.slice A' fs.length c',.slice A'' vs.length c''] 26)).alloc (.cells #[.int .i64 k3,.string s3,.int .i64 n3,.slice A3 ps3.length c3,.slice B3 fs3.length d3,.slice C3 vs3.length e3] 26)) (.cells #[.int .i64 0,.string ⟨#[]⟩,.int .i64 0,.slice none 0 0,.slice none 0 0,.slice none 0 0] 26);rw[World.size_alloc,World.size_alloc]at h;exact h
 exact main A c A' c' A'' c'' A3 c3 B3 d3 C3 e3 w1 g rfl rfl ⟨Hd hD,Hd hF,Hd hG,Hd hI,Hd hH,Hd hA,Hd hC,Hd hr,Hd hp,Hd hL,Hd hB,Hd (fun b h=>by have:=hE b h;omega),hL.short,hB.short⟩
