import Derived.Test.YtlpfpehegddcfaaGreatDoorMx18
namespace Go.Proofs.YtlpfpehegddcfaaGreatDoor
set_option maxRecDepth 100000
set_option maxHeartbeats 64000000
open Go.RowKit
theorem Cl (a:Ty) (l:List Ty):Au (a :: l)=Am a+Au l:=by simp[Au]
theorem Mv (k:Int):∀(ps:List Ty) (i:Nat),(∀p∈ps,(Bi p).length<=Am p)->(Cq k i ps).length<=Au ps
 | [],_,_=>by simp[Cq,Au]
 | p :: l,i,h=>by
  have h1:=h p List.mem_cons_self;have h2:=Mv k l (i+1) fun q hq=>h q (List.mem_cons_of_mem _ hq);rw[Cq,Cl,List.length_append]
  split
  ·simp only[List.length_nil];omega
  ·omega
theorem Mu:∀(fs:Bx),(∀f∈fs,(Bi f.2.2).length<=Am f.2.2)->(Dd fs).length<=Bm fs
 | [],_=>by simp[Dd]
 | f :: l,h=>by
  have h1:=h f List.mem_cons_self;have h2:=Mu l fun q hq=>h q (List.mem_cons_of_mem _ hq);have e1:Dd (f :: l)=Bi f.2.2++Dd l:=by simp[Dd]
  have e2:Bm (f :: l)=Am f.2.2+Bm l:=by simp[Bm]
  rw[e1,e2,List.length_append];omega
theorem Er (t:Ty):(Bi t).length<=Am t:=by
 refine Ty.ind (C:=fun t=>(Bi t).length<=Am t) (fun k t n ps fs vs hp hf _=>?_) t;rw[Gf,Bu];have h1:=Mv k ps 0 hp;have h2:=Mu fs hf
 split
 ·simp only[List.length_singleton];omega
 ·rw[List.length_append];omega
theorem Jn (t:Ty):1<=Am t:=by
 obtain⟨k,s,n,ps,fs,vs⟩:=t;rw[Bu];omega
theorem Fe:∀ {l:List Ty}{x:Ty},x∈l->Am x<=Au l
 | a :: l,x,h=>by
  rw[Cl];rcases List.mem_cons.1 h with rfl|h
  ·omega
  ·have:=Fe h;omega
theorem Hr:∀(l:List Ty),(∀p∈l,(Ds p).length<=Am p/\∀x∈Ds p,Am x<=Am p)->(Bz l).length<=Au l/\∀x∈Bz l,Am x<=Au l
 | [],_=>⟨by simp[Bz],fun x h=>absurd h (by simp[Bz])⟩
 | a :: l,h=>by
  obtain⟨h1,h2⟩:=h a List.mem_cons_self;obtain⟨h3,h4⟩:=Hr l fun q hq=>h q (List.mem_cons_of_mem _ hq);rw[I9,Cl,List.length_append];refine⟨by omega,fun x hx=>?_⟩;rcases List.mem_append.1 hx with hx|hx
  ·have:=h2 x hx;omega
  ·have:=h4 x hx;omega
theorem Tp (t:Ty):(Ds t).length<=Am t/\∀x∈Ds t,Am x<=Am t:=by
 refine Ty.ind (C:=fun t=>(Ds t).length<=Am t/\∀x∈Ds t,Am x<=Am t) (fun k t n ps fs vs hp _ _=>?_) t;rw[C6]
 split
 ·obtain⟨h1,h2⟩:=Hr ps hp;rw[Bu];exact⟨by omega,fun x hx=>by have:=h2 x hx;omega⟩
 ·refine⟨by have:=Jn (.mk k t n ps fs vs);simpa using this,fun x hx=>?_⟩;rw[List.mem_singleton]at hx;subst hx;exact Nat.le_refl _
theorem J7 (l:List Ty):(Bz l).length<=Au l/\∀x∈Bz l,Am x<=Au l:=Hr l fun p _=>Tp p
theorem R9 (t:Ty):Aj t=true->∀x∈Ds t,Aj x=true:=by
 refine Ty.ind (C:=fun t=>Aj t=true->∀x∈Ds t,Aj x=true) (fun k t n ps fs vs hp _ _ h x hx=>?_) t;rw[C6]at hx
 split at hx
 ·rw[Ay,Bool.and_eq_true,List.all_eq_true]at h;unfold Bz at hx;rw[List.mem_flatten]at hx;obtain⟨m,hm,hx⟩:=hx;obtain⟨p,hA,rfl⟩:=List.mem_map.1 hm;exact hp p hA (h.2 p hA) x hx
 ·rw[List.mem_singleton]at hx;subst hx;exact h
theorem S1 {l:List Ty}(h:l.all Aj=true):∀x∈Bz l,Aj x=true:=fun x hx=>by
 unfold Bz at hx;rw[List.mem_flatten]at hx;obtain⟨m,hm,hx⟩:=hx;obtain⟨p,hA,rfl⟩:=List.mem_map.1 hm;exact R9 p (List.all_eq_true.1 h p hA) x hx
theorem J5 {s:Shp}{t:Z8}{n:Int}{np nf nv:Nat}(h:Ao s t n np nf nv=true) (hs:s.hi=0) (hf:s.f=false) (hv:s.v=false):np=0/\nf=0/\nv=0/\(s.t=false->t.toList=[])/\(s.n=false->n=0):=by
 unfold Ao at h;rw[hs,hf,hv]at h;simp only[Bool.and_eq_true,Bool.not_eq_true',Bool.or_eq_false_iff,Bool.or_eq_true,decide_eq_true_eq,beq_iff_eq,Bool.not_false,Bool.true_and,decide_eq_false_iff_not]at h;obtain⟨⟨⟨⟨h1,h2⟩,h3⟩,h4⟩,h5,h6⟩:=h;refine⟨by omega,by omega,by omega,fun e=>?_,fun e=>?_⟩
 ·rw[e]at h1;simpa using h1
 ·rw[e]at h2;simpa using h2
theorem Dg {k:Int}{t:Z8}{n:Int}{ps:List Ty}{fs:Bx}{vs:Bt}(h:Aj (.mk k t n ps fs vs)=true):Ao (Ak k) t n ps.length fs.length vs.length=true:=by
 rw[Ay,Bool.and_eq_true,Bool.and_eq_true,Bool.and_eq_true]at h;exact h.1.1.2
theorem Of {k:Int}{x:Ty}(hx:Aj x=true) (hk:x.k=k) (h1:1<=k) (h8:k<=8):x=Hi k:=by
 obtain⟨q,t,n,ps,fs,vs⟩:=x;have e:q=k:=hk;subst e;have hs:Ak q=⟨false,false,false,false,0,0,true⟩:=by unfold Ak;rw[if_pos ⟨h1,h8⟩]
 have hf:=Dg hx;rw[hs]at hf;obtain⟨a,b,c,d,e⟩:=J5 hf rfl rfl rfl;have ht:t=Bv:=E7 (by have:=d rfl;rw[ByteArray.toList_eq]at this;rw[this];rfl);rw[List.eq_nil_of_length_eq_zero a,List.eq_nil_of_length_eq_zero b,List.eq_nil_of_length_eq_zero c,ht,e rfl];rfl
theorem Wp {x:Ty}(hx:Aj x=true) (hk:x.k=7\/x.k=8\/x.k=9\/x.k=10):Fg x=false:=by
 obtain⟨q,t,n,ps,fs,vs⟩:=x;have hk':q=7\/q=8\/q=9\/q=10:=hk;have hf:=Dg hx;have h0:ps.length=0/\fs.length=0:=by
  rcases hk' with rfl|rfl|rfl|rfl <;> (have:=J5 hf rfl rfl rfl;exact⟨this.1,this.2.1⟩)
 have e:(q == 22)=false:=by rcases hk' with rfl|rfl|rfl|rfl <;> rfl
 rw[Pq,List.eq_nil_of_length_eq_zero h0.1,List.eq_nil_of_length_eq_zero h0.2,e];rfl
theorem M1 {l:List Ty}(h:l.all Aj=true):Sl (Bz l):=fun x hx=>
 have hf:=S1 h x hx
 ⟨fun e=>Of hf e (by decide) (by decide),fun e=>Of hf e (by decide) (by decide),Wp hf⟩
theorem Hz (n:Int):IntKind.i64.wrap n=wrap64 n:=by unfold wrap64;exact IntKind.wrap_i64 n
theorem Ti:∀l:List Ty,l.length<=Au l
 | []=>Nat.le_refl _
 | a :: l=>by
  rw[Cl,List.length_cons];have:=Ti l;have:=Jn a;omega
theorem Jdd:∀fs:Bx,fs.length<=Bm fs
 | []=>Nat.le_refl _
 | a :: l=>by
  have e:Bm (a :: l)=Am a.2.2+Bm l:=by simp[Bm]
  rw[e,List.length_cons];have:=Jdd l;have:=Jn a.2.2;omega
def Ae (t:Ty):Prop:=∀(K:Nat->Prop) (w:World) (cs:List Value),Aw K w t cs->Am t<=1000000->Calls Tryz.prog 38 #[.agg cs.toArray] w fun e w'=>e=.returned (.bool (Aj t))/\Below w.heap.size w w'
theorem Vj {l:List Ty}{i:Nat}(h:i<l.length):(l.drop i).all Aj=(Aj l[i] && (l.drop (i+1)).all Aj):=by rw[List.drop_eq_getElem_cons h];rfl
theorem Uf (l:List Ty) (h:∀p∈l,Ae p) {K:Nat->Prop}{w:World}{A:Option Addr}{c:Nat}(hL:Bk K w l A c) (hc:Au l<=1000000) :
  Calls Tryz.prog 69 #[.slice A l.length c] w fun e w'=>e=.returned (.bool (l.all Aj))/\Below w.heap.size w w':=by
 have HL:=Hd hL;have HH:=Hd h;have HC:=Hd hc;have hP:=hL.short;clear hL h hc;go_enter Tryz.func69,Tryz.ntmps69;go_wp2_with fail
 go_loopw [3] (fun v wr=>∃(i:Nat),i<=l.length/\v=.int .i64 i/\l.all Aj=(l.drop i).all Aj/\Below w.heap.size w wr) (fun v _=>l.length - (intOf v).toNat)
 case atStart=>exact⟨0,by omega,rfl,by rw[List.drop_zero],Below.refl _ _⟩
 case round=>
  obtain⟨i,hi,rfl,he,hb⟩:=hrel;have HE:=Hd he;have HB:=Hd hb;clear he hb;by_cases hD:i<l.length
  ·have t1:decide ((i:Int)<(l.length:Int))=true:=by simp;omega
   have hK:wrap64 ((i:Int)+1)=((i+1:Nat):Int):=Ba (by omega);have HM:=Hd (Bg hD);obtain⟨b,o,hA,_,hH⟩:=HL.o.at (by omega);have hJ:=hH i hD;have hF:=HH.o _ (List.getElem_mem hD);have HS:=Hd (Vj hD);have hE:=Nat.le_trans (Fe (List.getElem_mem hD)) HC.o;have hN:Z9 (i+1<=l.length):=Hd hD;subst hA;generalize l[i]=t at hJ hF HS hE;obtain⟨cs,hB,hC⟩:=hJ;have KI:=Hd (hF K wr cs (hC.later HB.o) hE);generalize Aj t=q at HS KI;obtain⟨k2,s2,n2,hQ,hO,hR⟩:=t;obtain⟨Aq,cq,Ag,cg,Ah,ch,rfl,-⟩:=hC.inv;have y0:=Aa HB.o (hB 0 _ rfl);have y1:=Aa HB.o (hB 1 _ rfl);have y2:=Aa HB.o (hB 2 _ rfl);have y3:=Aa HB.o (hB 3 _ rfl);have y4:=Aa HB.o (hB 4 _ rfl);have y5:=Aa HB.o (hB 5 _ rfl);rw[Nat.add_zero]at y0;simp only[Az]at KI;clear hi hH hF hB hC hE;go_wp2_with fail;refine KI.o.mono ?_;rintro e w2 ⟨rfl,hI⟩;have hG:=Hd (Cx HB.o hI);clear hI KI y0 y1 y2 y3 y4 y5
   cases q with
   | true=>
    go_wp2_with fail;refine⟨⟨i+1,hN.o,by first|rfl|rw[hK],by rw[HE.o,HS.o];rfl,hG.o⟩,?_⟩;first|exact HM.o|(rw[hK];exact HM.o)
   | false=>
    go_wp2_with fail;go_ret
    exact⟨by rw[HE.o,HS.o];rfl,hG.o⟩
  ·have t1:decide ((i:Int)<(l.length:Int))=false:=by simp;omega
   have hM:Z9 (l.all Aj=true):=Hd (by rw[HE.o,List.drop_eq_nil_of_le (by omega)];rfl);clear hi;go_wp2_with fail;go_ret
   exact⟨by rw[hM.o];rfl,HB.o⟩
theorem Qo:∀ {l:Bt}{v:Z8×List Ty},v∈l->Au v.2<=Bl l
 | a :: l,v,h=>by
  have e:Bl (a :: l)=Au a.2+Bl l:=by simp[Bl]
  rw[e];rcases List.mem_cons.1 h with rfl|h
  ·omega
  ·have:=Qo h;omega
theorem Xw {l:Bt}{i:Nat}{nm:Z8}(h:∀j (hj:j<l.length),j<i->l[j].1≠nm):((l.take i).any fun x=>decide (x.1=nm))=false:=by
 rw[List.any_eq_false];intro x hx;obtain⟨j,hj,rfl⟩:=List.getElem_of_mem hx;simp only[List.length_take]at hj;rw[List.getElem_take];simpa using h j (by omega) (by omega)
theorem Xx {l:Bt}{i j:Nat}{nm:Z8}(hj:j<l.length) (hA:j<i) (h:l[j].1=nm):((l.take i).any fun x=>decide (x.1=nm))=true:=by
 rw[List.any_eq_true];refine⟨l[j],?_,by simpa using h⟩;have:(l.take i)[j]'(by simp;omega)=l[j]:=List.getElem_take;rw[<-this];exact List.getElem_mem _
theorem Vn (l:Bt) (h:∀v∈l,∀b∈v.2,Ae b) {K:Nat->Prop}{w:World}{A:Option Addr}{c:Nat}(hL:Da K w l A c) (kT:l.length<=1000000000000000) (hc:Bl l<=1000000) :
  Calls Tryz.prog 71 #[.slice A l.length c] w fun e w'=>e=.returned (.bool (Eo (Dj l Aj)))/\Below w.heap.size w w':=by
 have HL:=Hd hL;have HH:=Hd h;have HC:=Hd hc;clear hL h hc;go_enter Tryz.func71,Tryz.ntmps71;go_wp2_with fail
 go_loopw [3] (fun v wr=>∃(i:Nat),i<=l.length/\v=.int .i64 i/\(∀j,j<i->okV (Dj l Aj) j=true)/\Below w.heap.size w wr) (fun v _=>l.length - (intOf v).toNat)
 case atStart=>exact⟨0,by omega,rfl,fun j hj=>absurd hj (by omega),Below.refl _ _⟩
 case round=>
  obtain⟨i,hi,rfl,he,hb⟩:=hrel;have HE:=Hd he;have HB:=Hd hb;clear he hb;by_cases hC:i<l.length
  ·have t1:decide ((i:Int)<(l.length:Int))=true:=by simp;omega
   have kG:wrap64 ((i:Int)+1)=((i+1:Nat):Int):=Ba (by omega);have HM:=Hd (Bg hC);obtain⟨b,o,hA,hW⟩:∃b o,A=some ⟨b,o,none⟩/\∀i (h:i<l.length),∃B d,w.cell? ⟨b,o+i*2,none⟩=some (.string l[i].1)/\w.cell? ⟨b,o+i*2+1,none⟩=some (.slice B l[i].2.length d)/\l[i].1.size<=1000000000000000/\Bk K w l[i].2 B d:=by
    obtain⟨b,o,h1,h2⟩:=HL.o;exact⟨b,o,(h1.some (by omega)).1,h2⟩
   obtain⟨B,d,hP,hQ,kF,hT⟩:=hW i hC;have hD:=Hd (ε (fv:=Aj) hC);subst hA;have hN:Z9 (okV (Dj l Aj) i=false->Eo (Dj l Aj)=false):=Hd fun e=>by unfold Eo;exact F9 (by rw[Fy];exact hC) e
   have hG:Z9 (∀k (h:k<l.length),∃q,q=l[k].1/\w.cell? ⟨b,o+k*2,none⟩=some (.string q)):=Hd fun k h=>⟨_,rfl,(by obtain⟨B,d,h1,-⟩:=hW k h;exact h1)⟩;have KAll:=Hd fun wx (hx:Below w.heap.size w wx)=>Uf l[i].2 (HH.o _ (List.getElem_mem hC)) (hT.later hx) (Nat.le_trans (Qo (List.getElem_mem hC)) HC.o);generalize l[i].1=nm at hP kF hD;generalize l[i].2=bs at hQ hT hD KAll;have x0:=Aa HB.o hP;have x1:=Aa HB.o hQ;have KN:=Hd (Ju nm wr kF);have kR:=hT.short;have HX:Z9 (∀wx,Below w.heap.size w wx->wx.cell? ⟨b,o+i*2,none⟩=some (.string nm)/\wx.cell? ⟨b,o+i*2+1,none⟩=some (.slice B bs.length d)):=Hd fun wx hx=>⟨Aa hx hP,Aa hx hQ⟩;have kK:Z9 (i+1<=l.length):=Hd hC;clear hi hT hP hQ hW;go_wp2_with fail;refine KN.o.mono ?_;rintro e w2 ⟨rfl,kC⟩;have hF:=Hd (Cx HB.o kC);obtain⟨y0,y1⟩:=HX.o _ hF.o;clear x0 x1 kC KN
   cases hn:B6 nm with
   | false=>
    have HF:=Hd (hN.o (by rw[hD.o,hn];rfl));clear hn;go_wp2_with fail;go_ret
    exact⟨by rw[HF.o];rfl,hF.o⟩
   | true=>
    have HN:=Hd hn;clear hn;by_cases hM:1<bs.length
    ·have t2:decide (1<bs.length)=true:=decide_eq_true hM;have HF:=Hd (hN.o (by rw[hD.o,HN.o,decide_eq_false (by omega)];rfl));go_wp2_with fail;go_ret
     exact⟨by rw[HF.o];rfl,hF.o⟩
    ·have t2:decide (1<bs.length)=false:=decide_eq_false hM;have hZ:Z9 (decide (bs.length<=1)=true):=Hd (decide_eq_true (by omega));go_wp2_with fail;refine (KAll.o _ hF.o).mono ?_;rintro e w3 ⟨rfl,kD⟩;have hR:=Hd (Cx hF.o kD);obtain⟨z0,z1⟩:=HX.o _ hR.o;clear y0 y1 kD KAll
     cases hO:bs.all Aj with
     | false=>
      have HF:=Hd (hN.o (by rw[hD.o,HN.o,hZ.o,hO];rfl));clear hO;go_wp2_with fail;go_ret
      exact⟨by rw[HF.o];rfl,hR.o⟩
     | true=>
      have kI:=Hd hO;clear hO;go_wp2_with fail
      go_loopw [4] (fun v wx=>∃(k:Nat),k<=i/\v=.int .i64 k/\(∀j (hj:j<l.length),j<k->l[j].1≠nm)/\Below w3.heap.size w3 wx) (fun v _=>i - (intOf v).toNat)
      case atStart=>exact⟨0,by omega,rfl,fun j _ hj=>absurd hj (by omega),Below.refl _ _⟩
      case round=>
       obtain⟨k,hk,rfl,kE,hI⟩:=hrel;have kJ:=Hd hI;have hS:=Hd (Cx hR.o hI)
       replace z0:=Aa hI z0
       replace z1:=Aa hI z1
       clear hI;have kB:=Hd kE;clear kE;by_cases hK:k<i
       ·have t3:decide ((k:Int)<(i:Int))=true:=(by simp;omega);have t4:decide (k<i)=true:=decide_eq_true hK;have kH:wrap64 ((k:Int)+1)=((k+1:Nat):Int):=Ba (by omega);have kA:=Hd (Bg hK);obtain⟨q,hq,hJ⟩:=hG.o k (by omega);have kP:=Aa hS.o hJ;have hX:k<l.length:=(by omega);have i1:(k:Int)<(l.length:Int):=(by omega);have i2:(0:Int)<=(k:Int):=(by omega);have i3:(i:Int)<(l.length:Int):=(by omega);have i4:(0:Int)<=(i:Int):=(by omega);have i5:i<l.length:=hC;have HQ:Z9 (∀hX:k<l.length,q=l[k].1):=Hd fun _=>hq;have kL:Z9 (k+1<=i):=Hd hK;have hY:Z9 (∀wx,Below wr.heap.size wr wx->wx.cell? ⟨b,o+k*2,none⟩=some (.string q)):=Hd fun wx hx=>Aa hx kP;have HCN:Z9 (∀wx,Below wr.heap.size wr wx->wx.cell? ⟨b,o+i*2,none⟩=some (.string nm)):=Hd fun wx hx=>Aa hx z0;clear hq hJ;by_cases hE:q=nm
        ·have e13:(q.toList == nm.toList)=true:=(by rw[eqT];exact decide_eq_true hE);have HF:=Hd (hN.o (by rw[hD.o,Xx hX hK ((HQ.o hX).symm.trans hE),Bool.not_true,Bool.and_false]));clear hE hk;go_wp2_with fail;refine wp_region_held_drew (S:=(fun w'=>w'.cell? ⟨b,o+k*2,none⟩=some (.string q)/\w'.cell? ⟨b,o+i*2,none⟩=some (.string nm))) (by kernel_rfl) ⟨hY.o _ (Below.refl _ _).drew,HCN.o _ (Below.refl _ _).drew⟩ (fun hB=>?_);refine Ab.s [0,1,2,3,4,5,6,7,8,9,10] ?_
         iterate 11 ((refine Ab.t (v:=?_) (so rfl) (by kernel_rfl) (by kernel_rfl) (by kernel_rfl) (fun _ _ _ h=>h) (Or.inl ⟨by rfl,?_⟩) hB ?_;rotate_left;focus (intro w' hH;(try dsimp only at hH);obtain⟨kN,kO⟩:=hH;go_simp;try with_reducible rfl));try simp only[Act.put,Bd,Be,Bf])
         refine Ab.d ?_;refine wpAnyH_done (by kernel_rfl) ?_ _;clear hB;go_wp2_with fail;go_ret
         exact⟨by rw[HF.o];rfl,hS.o.drew⟩
        ·have e13:(q.toList == nm.toList)=false:=(by rw[eqT];exact decide_eq_false hE);have hU:Z9 (∀j (hj:j<l.length),j<k+1->l[j].1≠nm):=Hd fun j hj kS=>by
          rcases Nat.lt_or_ge j k with h1|h1
          ·exact kB.o j hj h1
          ·have:j=k:=by omega
           subst this;rw[<-HQ.o hj];exact hE
         clear hE hk;go_wp2_with fail;refine wp_region_held_drew (S:=(fun w'=>w'.cell? ⟨b,o+k*2,none⟩=some (.string q)/\w'.cell? ⟨b,o+i*2,none⟩=some (.string nm))) (by kernel_rfl) ⟨hY.o _ (Below.refl _ _).drew,HCN.o _ (Below.refl _ _).drew⟩ (fun hB=>?_);refine Ab.s [0,1,2,3,4,5,6,7,8,9,10] ?_
         iterate 11 ((refine Ab.t (v:=?_) (so rfl) (by kernel_rfl) (by kernel_rfl) (by kernel_rfl) (fun _ _ _ h=>h) (Or.inl ⟨by rfl,?_⟩) hB ?_;rotate_left;focus (intro w' hH;(try dsimp only at hH);obtain⟨kN,kO⟩:=hH;go_simp;try with_reducible rfl));try simp only[Act.put,Bd,Be,Bf])
         refine Ab.d ?_;refine wpAnyH_done (by kernel_rfl) ?_ _;clear hB;go_wp2_with fail;refine⟨⟨k+1,kL.o,by first|rfl|rw[kH],hU.o,kJ.o.drew⟩,?_⟩;first|exact kA.o|(rw[kH];exact kA.o)
       ·have t3:decide ((k:Int)<(i:Int))=false:=(by simp;omega);have t4:decide (k<i)=false:=decide_eq_false hK;have hV:Z9 (∀j,j<i+1->okV (Dj l Aj) j=true):=Hd fun j hj=>by
         rcases Nat.lt_or_ge j i with h1|h1
         ·exact HE.o j h1
         ·have:j=i:=by omega
          subst this;rw[hD.o,HN.o,hZ.o,kI.o,Xw fun a ha kQ=>kB.o a ha (by omega)];rfl
        clear hk;go_wp2_with fail;refine⟨⟨i+1,kK.o,by first|rfl|rw[kG],hV.o,hS.o⟩,?_⟩;first|exact HM.o|(rw[kG];exact HM.o)
  ·have t1:decide ((i:Int)<(l.length:Int))=false:=by simp;omega
   have kM:Z9 (Eo (Dj l Aj)=true):=Hd (by unfold Eo;rw[Et];exact fun j hj=>HE.o j (by rw[Fy]at hj;omega));clear hi;go_wp2_with fail;go_ret
   exact⟨by rw[kM.o];rfl,HB.o⟩
theorem Sf:Tryz.prog.underlying 46=some (.slice 9):=by kernel_rfl
theorem Ih {B:Nat}{w:World}{v:Value}{ts l:List Z8}{A:Option Addr}{c:Nat}{o:Oper}{a:Act}{Kc:Act->World->Prop}{Q:Exit->Act->World->Prop}(s x:Operand)
  (ho:o.op=.call { callee:=.builtin .append,args:=#[s,x],argTypes:=#[46,46] }) (hs:a.eval s=v) (hx:a.eval x=.slice A l.length c)
  (hO:Du B w v ts) (hL:Cg w l A) (hN:A=none->l=[]/\c=0) (hB:B<=w.heap.size) (hG:ts.length+l.length<=1099511627776)
  (h:∀v' w',Du B w' v' (ts++l)->w.grownBy w' v.ownBlock->Kc (a.put o.dst v') w') :
  Oper.wp Tryz.prog o a w Kc Q:=by
 have hC:w.ownsRow B 9 1 v ts.length (ts.map .string):=hO;obtain⟨i0,hF,hJ,hK,hM⟩:=Eg Hs;obtain⟨b,o',hA,hI,hH⟩:=hL.ex;rcases A with _|ad
 ·obtain⟨rfl,rfl⟩:=hN rfl;have hE:=run_append_owned_none (P:=Tryz.prog) (w:=w) B 46 o.type 9 i0 1 Sf hF v ts.length _ hC;unfold Oper.wp execOp;simp only[ho,resolve,invoke,builtin,Sem.run_bind,Sem.run_pure,Result.andThen_ok,List.map_toArray,List.map_cons,List.map_nil,hs,hx,List.length_nil,hE];exact h v w (by rw[List.append_nil];exact hO) ⟨rfl,rfl,rfl,Nat.le_refl _,fun _ _ _=>rfl⟩
 ·refine Cb s x 46 ho B 9 i0 _ 1 16 Sf hF hJ hK hM (by decide) (by decide) v ts.length _ hs hC ad l.length c (l.map .string) hx (by simp) (fun j u hj=>?_) (fun u hu=>?_) (by simp only[maxLen];omega) (by omega) hB ?_
  ·have hD:=(List.getElem?_eq_some_iff.1 hj).1;rw[List.length_map]at hD;obtain rfl:ad=⟨b,o',none⟩:=Option.some.inj (hA (by omega));have e2:((⟨b,o',none⟩:Addr).add j)=⟨b,o'+j,none⟩:=by unfold Addr.add;by_cases h0:j=0 <;> simp[h0]
   rw[e2,hH j hD];rw[List.getElem?_map,List.getElem?_eq_getElem hD]at hj;simpa using hj
  ·obtain⟨y,-,rfl⟩:=List.mem_map.1 hu;rfl
  ·intro v' w' g1 g2 _ _;refine h v' w' ?_ g2;unfold Du;rw[List.length_append,List.map_append];exact g1
structure Gi (w:World) (l:List Z8) (A:Option Addr) (c:Nat):Prop where
 ls:Cg w l A
 nil:A=none->l=[]/\c=0
 blk:∀g o,A=some ⟨g,o,none⟩->g<w.heap.size
 len:l.length<=10000000000
theorem Cg.stay {w w':World}{l:List Z8}{A:Option Addr}(h:Cg w l A) (hk:∀b o,A=some ⟨b,o,none⟩->w'.heap[b]?=w.heap[b]?):Cg w' l A:=by
 obtain⟨b,o,h1,h2,h3⟩:=h.ex;exact⟨b,o,h1,h2,fun i hi=>(World.cell?_of_block (a:=⟨b,o+i,none⟩) (hk b o (h1 (by omega)))).trans (h3 i hi)⟩
theorem Gi.stay {w w':World}{l:List Z8}{A:Option Addr}{c:Nat}(h:Gi w l A c) (hs:w.heap.size<=w'.heap.size) (hk:∀b o,A=some ⟨b,o,none⟩->w'.heap[b]?=w.heap[b]?):Gi w' l A c:=
 ⟨h.ls.stay hk,h.nil,fun g o e=>Nat.lt_of_lt_of_le (h.blk g o e) hs,h.len⟩
theorem Gi.later {w w':World}{l:List Z8}{A:Option Addr}{c:Nat}(h:Gi w l A c) (hb:Below w.heap.size w w'):Gi w' l A c:=
 h.stay hb.size fun b o e=>hb.block b (h.blk b o e)
theorem Gi.no (w:World):Gi w [] none 0:=⟨⟨0,0,fun h=>absurd h (by simp),by simp,fun i h=>absurd h (by simp)⟩,fun _=>⟨rfl,rfl⟩,(fun _ _ h=>by cases h),by simp⟩
def Lj (v:Value) (A:Option Addr):Prop:=∀g o,A=some ⟨g,o,none⟩->v.ownBlock≠some g
theorem Gi.fr {v v':Value}{w w':World}{l:List Z8}{A:Option Addr}{c:Nat}(h:Gi w l A c) (hf:Fr v w v' w') (hs:w.heap.size<=w'.heap.size) (ho:Lj v A):Gi w' l A c/\Lj v' A:=by
 refine⟨h.stay hs fun b o e=>hf.keep b (h.blk b o e) (ho b o e),fun g o e=>?_⟩;rcases hf.own with e2|⟨b,e2,hb⟩
 ·rw[e2];exact ho g o e
 ·rw[e2];intro e3;injection e3 with e3;have:=h.blk g o e;omega
theorem Ek.side {w0 w wr wx:World}{v v':Value}{l N l':List Z8}(h:Ek w0 w v l N v' wr l') (hl:Below w0.heap.size w0 wx) (hk:∀b,b<wr.heap.size->wx.heap[b]?=wr.heap[b]?) (hs:wr.heap.size<=wx.heap.size):Ek w0 w v l N v' wx l':=by
 refine⟨?_,h.asc,h.mem,h.len,hl,Nat.le_trans h.big hs,h.fr.trans ⟨fun b hb _=>hk b hb,.inl rfl⟩ h.big⟩;rcases h.own.of with ⟨rfl,rfl⟩|⟨g,c,rfl,hg,hi⟩
 ·exact World.ownsRow_nil _ _ _ _
 ·exact (hi.keep (hk g hi.lt)).o hg
theorem Gc {w:World}{l:List Z8}{A:Option Addr}{c:Nat}{s:Z8}(hN:Gi w l A c) (hl:l.length+1<=10000000000) :
  Calls Tryz.prog 78 #[.slice A l.length c,.string s] w fun e w'=>∃g c',e=.returned (.slice (some ⟨g,0,none⟩) (l.length+1) c')/\w.heap.size<=g/\Gi w' (l++[s]) (some ⟨g,0,none⟩) c'/\Below w.heap.size w w':=by
 have HN:=Hd hN;have HL:=Hd hl;have hQ:Z9 (Du w.heap.size w (.slice none 0 0) []):=Hd (World.ownsRow_nil _ _ _ _);clear hN;go_enter Tryz.func78,Tryz.ntmps78;go_wp2_with (at_builtin;refine wpList_plain rfl fun K hK=>?_;go_loud (refine Ih (B:=w.heap.size) (ts:=[]) (l:=l) _ _ rfl rfl rfl hQ.o HN.o.ls HN.o.nil (Nat.le_refl _) (by have:=HL.o;simp only[List.length_nil];omega) ?_));intro v2 w2 hJ hG;refine hK _ _ ?_;clear hK K;have hC:Below w.heap.size w w2:=(Below.refl _ _).grown hG (Nat.le_refl _) fun k hk=>by cases hk
 obtain⟨w3,hB⟩:∃x,x=w2.alloc (.cells #[.string s] 9):=⟨_,rfl⟩;have hE:Below w2.heap.size w2 w3:=by rw[hB];exact (Below.refl _ _).alloc (Nat.le_refl _) _
 have hM:w3.heap[w2.heap.size]?=some (.cells #[.string s] 9 (0,0)):=by rw[hB];exact heap_alloc_new w2 _
 have hF:=Hd (hJ.later hE);have hD:Z9 (Below w.heap.size w w3):=Hd (hC.trans (hE.mono hC.size));have hP:Z9 (Cg w3 [s] (some ⟨w2.heap.size,0,none⟩)):=Hd ⟨w2.heap.size,0,fun _=>rfl,by simp,fun i hi=>by
  have hS:i=0:=by simpa using hi
  subst hS;rw[Ch hM];rfl⟩
 have hR:=Hd hB;have hU:Z9 (w3.heap.size=w2.heap.size+1):=Hd (by rw[hB];simp);have hT:=Hd hC;clear hJ hG hC hB hE hM;go_wp2_with (at_builtin;refine wpList_plain rfl fun K hK=>?_;rw[<-hR.o];go_loud (refine Ih (B:=w.heap.size) (ts:=l) (l:=[s]) _ _ rfl rfl rfl hF.o hP.o (fun e=>by cases e) hD.o.size (by have:=HL.o;simp only[List.length_cons,List.length_nil];omega) ?_));intro v4 w4 hL hH;refine hK _ _ ?_;clear hK K;have hA:(l++[s]).length=l.length+1:=by simp
 rcases hL.of with ⟨-,hn⟩|⟨g,c4,rfl,hI,hi⟩
 ·exact absurd hn (by simp)
 have HG:=Hd hI;have HI:=Hd hi;have hO:Z9 (Below w.heap.size w w4):=Hd (hD.o.grown hH hD.o.size fun k hk=>(World.ownsRow.lt hF.o k hk).1);rw[hA];clear hL hH hI hi;go_wp2_with fail;go_ret
 exact⟨g,c4,rfl,HG.o,⟨HI.o.list (by have:=HL.o;rw[hA];omega),(fun e=>by cases e),(fun g' o e=>by injection e with e;injection e with e;rw[<-e];exact HI.o.lt),by have:=HL.o;rw[hA];omega⟩,hO.o⟩
theorem W8 (t:Ty):∀x∈Ds t,x.k≠15:=by
 refine Ty.ind (C:=fun t=>∀x∈Ds t,x.k≠15) (fun k t n ps fs vs hp _ _ x hx=>?_) t;rw[C6]at hx;by_cases h:k=15
 ·rw[if_pos h]at hx;unfold Bz at hx;rw[List.mem_flatten]at hx;obtain⟨l,hl,hx⟩:=hx;obtain⟨p,hm,rfl⟩:=List.mem_map.1 hl;exact hp p hm x hx
 ·rw[if_neg h,List.mem_singleton]at hx;subst hx;exact h
theorem Qv {l:List Ty}{x:Ty}(h:x∈Bz l):x.k≠15:=by
 unfold Bz at h;rw[List.mem_flatten]at h;obtain⟨m,hm,hx⟩:=h;obtain⟨p,-,rfl⟩:=List.mem_map.1 hm;exact W8 p x hx
theorem Ja:∀ {l:List Ty},(∀x∈l,x.k≠15)->Bz l=l
 | [],_=>rfl
 | a :: l,h=>by
  obtain⟨k,t,n,ps,fs,vs⟩:=a;have hk:¬ k=15:=h _ List.mem_cons_self;rw[I9,C6,if_neg hk,Ja fun x hx=>h x (List.mem_cons_of_mem _ hx)];rfl
theorem Uh:∀ {l:List Ty},(∀i (h:i+1<l.length),B5 (l[i]'(by omega)) l[i+1] = -1)->Lm l
 | [],_=>List.Pairwise.nil
 | [a],_=>List.pairwise_singleton _ _
 | a :: b :: l,h=>by
  have ih:Lm (b :: l):=Uh fun i hi=>h (i+1) (by simp at hi ⊢;omega);refine List.pairwise_cons.2 ⟨fun x hx=>?_,ih⟩;have h0:B5 a b = -1:=h 0 (by simp);rcases List.mem_cons.1 hx with rfl|hx
  ·exact h0
  ·exact Fx h0 (List.rel_of_pairwise_cons ih hx)
theorem Om {ps:List Ty}(h2:2<=ps.length):H5 ps=true↔E5 ps=.mk 15 Bv 0 ps [] []:=by
 unfold H5;rw[Bool.and_eq_true,Et,List.all_eq_true]
 constructor
 ·rintro⟨h,hk⟩;have hD:∀x∈ps,x.k≠15:=fun x hx e=>by
   obtain⟨i,hi,rfl⟩:=List.getElem_of_mem hx;have:=h i hi;unfold P4 at this;rw[List.getElem?_eq_getElem hi]at this;simp[e]at this
  have hA:Lm ps:=Uh fun i hi=>by
   have:=h (i+1) hi;unfold P4 at this;rw[List.getElem?_eq_getElem hi]at this;simp only[List.getElem?_eq_getElem (show i<ps.length by omega),Bool.and_eq_true,decide_eq_true_eq]at this;rcases Gb (ps[i]'(by omega)) ps[i+1] with e|e|e
   ·exact e
   ·have h3:=this.2;rw[e]at h3;omega
   ·have h3:=this.2;rw[e]at h3;omega
  have hf:=Ja hD;have hE:Gv ps=ps:=by
   unfold Gv;rw[hf,List.filter_eq_self];exact hk
  unfold E5;rw[hE,Tt hA];rcases ps with _|⟨x,_|⟨y,l⟩⟩
  ·simp at h2
  ·simp at h2
  ·rfl
 ·intro h;unfold E5 at h;have hL:Eh (Gv ps)=ps:=by
   generalize hs:Eh (Gv ps)=L at h;rcases L with _|⟨x,_|⟨y,l⟩⟩
   ·have:=congrArg Ty.k h;exact absurd this (by show ¬ ((1:Int)=15);decide)
   ·have hx:x∈Gv ps:=(G9 x _).1 (by rw[hs];exact List.mem_cons_self);unfold Gv at hx;have hB:=Qv (List.mem_filter.1 hx).1;have e:x=.mk 15 Bv 0 ps [] []:=h;rw[e]at hB;exact absurd rfl hB
   ·have e:Ty.mk 15 Bv 0 (x :: y :: l) [] []=.mk 15 Bv 0 ps [] []:=h;injection e with _ _ _ e
  have hC:∀x∈ps,x∈Gv ps:=fun x hx=>(G9 x _).1 (by rw[hL];exact hx);have hD:∀x∈ps,x.k≠15:=fun x hx=>Qv (List.mem_filter.1 (hC x hx)).1;have hf:=Ja hD;have hA:Lm ps:=by rw[<-hL];exact Ii _
  refine⟨fun i hi=>?_,fun x hx=>?_⟩
  ·unfold P4;rw[List.getElem?_eq_getElem hi];have hB:=hD _ (List.getElem_mem hi);rcases i with _|i
   ·simpa using hB
   ·have:=List.pairwise_iff_getElem.1 hA i (i+1) (by omega) hi (by omega);simp only[List.getElem?_eq_getElem (show i<ps.length by omega),this];simpa using hB
  ·have h3:=(List.mem_filter.1 (hC x hx)).2;rw[hf]at h3;exact h3
