import Derived.Test.YtlpfpehegddcfaaGreatDoorMx5
namespace Go.Proofs.YtlpfpehegddcfaaGreatDoor
set_option maxRecDepth 100000
set_option maxHeartbeats 64000000
open Go.RowKit
theorem De.vals {K:Nat->Prop}{w:World}{t:Ty}{b o:Nat}(h:De K w t b o) :
  ∃k s n A lp c A' lf c' A'' lv c'',Aw K w t [.int .i64 k,.string s,.int .i64 n,.slice A lp c,.slice A' lf c',.slice A'' lv c'']/\w.cell? ⟨b,o,none⟩=some (.int .i64 k)/\w.cell? ⟨b,o+1,none⟩=some (.string s)/\w.cell? ⟨b,o+2,none⟩=some (.int .i64 n)/\w.cell? ⟨b,o+3,none⟩=some (.slice A lp c)/\w.cell? ⟨b,o+4,none⟩=some (.slice A' lf c')/\w.cell? ⟨b,o+5,none⟩=some (.slice A'' lv c''):=by
 obtain⟨k,s,n,ps,fs,vs⟩:=t;obtain⟨cs,h1,h2⟩:=h;obtain⟨A,c,A',c',A'',c'',rfl,_⟩:=h2.inv;exact⟨k,s,n,A,ps.length,c,A',fs.length,c',A'',vs.length,c'',h2,h1 0 _ rfl,h1 1 _ rfl,h1 2 _ rfl,h1 3 _ rfl,h1 4 _ rfl,h1 5 _ rfl⟩
def L3 (t:Ty):Prop:=∀(K:Nat->Prop) (w:World) (cs:List Value),Aw K w t cs->Calls Tryz.prog 8 #[.agg cs.toArray] w fun e w'=>e=.returned (.int .i64 (Cj (Am t):Nat))/\Gw w w'
def Xu (wr:World) (b o x:Nat):Prop:=∃q1 q2 q3 B1 l1 d1 B2 l2 d2 B3 l3 d3,wr.cell? ⟨b,o,none⟩=some (.int .i64 q1)/\wr.cell? ⟨b,o+1,none⟩=some (.string q2)/\wr.cell? ⟨b,o+2,none⟩=some (.int .i64 q3)/\wr.cell? ⟨b,o+3,none⟩=some (.slice B1 l1 d1)/\wr.cell? ⟨b,o+4,none⟩=some (.slice B2 l2 d2)/\wr.cell? ⟨b,o+5,none⟩=some (.slice B3 l3 d3)/\Calls Tryz.prog 8 #[.agg #[.int .i64 q1,.string q2,.int .i64 q3,.slice B1 l1 d1,.slice B2 l2 d2,.slice B3 l3 d3]] wr fun e w'=>e=.returned (.int .i64 (Cj x:Nat))/\Gw wr w'
theorem Φ {K:Nat->Prop}{t:Ty}(h:L3 t) {wr:World}{b o:Nat}(ha:De K wr t b o):Xu wr b o (Am t):=by
 obtain⟨q1,q2,q3,B1,l1,d1,B2,l2,d2,B3,l3,d3,hA,e0,e1,e2,e3,e4,e5⟩:=ha.vals;exact⟨q1,q2,q3,B1,l1,d1,B2,l2,d2,B3,l3,d3,e0,e1,e2,e3,e4,e5,h K wr _ hA⟩
theorem R2 {K:Nat->Prop}{ps:List Ty}{w0 wr:World}{A:Option Addr}{c i:Nat}(hP:Bk K w0 ps A c) (h:∀p∈ps,L3 p) (hi:i<ps.length) (hb:Gw w0 wr):∃b o x,A=some ⟨b,o,none⟩/\Au (ps.take (i+1))=Au (ps.take i)+x/\Xu wr b (o+i*6) x:=by
 obtain⟨b,o,hA,_,hr⟩:=hP.at (by omega);exact⟨b,o,_,hA,Vw hi,Φ (h _ (List.getElem_mem hi)) ((hr i hi).later hb.below)⟩
theorem Jde {K:Nat->Prop}{fs:Bx}{w0 wr:World}{A:Option Addr}{c i:Nat}(hP:Dt K w0 fs A c) (h:∀f∈fs,L3 f.2.2) (hi:i<fs.length) (hb:Gw w0 wr):∃b o x,A=some ⟨b,o,none⟩/\Bm (fs.take (i+1))=Bm (fs.take i)+x/\Xu wr b (o+i*8+2) x:=by
 obtain⟨b,o,hA,_,hr⟩:=hP.at (by omega);exact⟨b,o,_,hA,Vs hi,Φ (h _ (List.getElem_mem hi)) ((hr i hi).2.2.2.later hb.below)⟩
theorem U2 {K:Nat->Prop}{vs:Bt}{w0:World}{A:Option Addr}{c i:Nat}(hP:Da K w0 vs A c) (h:∀v∈vs,∀b∈v.2,L3 b) (hi:i<vs.length):∃b o B d,∃l:List Ty,A=some ⟨b,o,none⟩/\Bl (vs.take (i+1))=Bl (vs.take i)+Au l/\(∀wr,Gw w0 wr->wr.cell? ⟨b,o+i*2+1,none⟩=some (.slice B l.length d))/\Bk K w0 l B d/\(∀p∈l,L3 p):=by
 obtain⟨b,o,hA,_,hr⟩:=hP.at (by omega);obtain⟨B,d,_,h1,_,h2⟩:=hr i hi;exact⟨b,o,B,d,vs[i].2,hA,Vy hi,fun wr hb=>Aa hb.below h1,h2,h _ (List.getElem_mem hi)⟩
theorem Bk.short {K:Nat->Prop}{w:World}{l:List Ty}{A:Option Addr}{c:Nat}(h:Bk K w l A c):l.length<=1000000000000000:=by
 obtain⟨_,_,hr,_⟩:=h;exact hr.big
theorem Cm {n:Int}(h:0<=n) (h':n<=1000000000000000000):wrap64 n=n:=by
 have e:IntKind.i64.wrap n=wrap64 n:=by unfold wrap64;exact IntKind.wrap_i64 n
 rw[<-e];simp[IntKind.wrap,IntKind.bits,IntKind.signed];omega
theorem Bg {i k:Nat}(h:i<k):k - (intOf (Value.int .i64 ((i+1:Nat):Int))).toNat<k - (intOf (Value.int .i64 (i:Int))).toNat:=by
 simp only[intOf];omega
theorem Gn {a b:Nat}(h:a+b<=1000000000000000000):wrap64 ((a:Int)+(b:Int))=((a+b:Nat):Int):=by rw[Cm (by omega) (by omega)];omega
theorem Ba {a:Nat}(h:a<=100000000000000000):wrap64 ((a:Int)+1)=((a+1:Nat):Int):=by rw[Cm (by omega) (by omega)];omega
theorem Ψ (k:Int) (t:Z8) (n:Int) (ps:List Ty) (fs:Bx) (vs:Bt) (hp:∀p∈ps,L3 p) (hf:∀f∈fs,L3 f.2.2) (hv:∀v∈vs,∀b∈v.2,L3 b):L3 (.mk k t n ps fs vs):=by
 intro K w cs h;have ha:=(De.box 26 h);obtain⟨A,c,A2,c2,A3,c3,rfl,-⟩:=h.inv;simp only[Az]at ha ⊢;have kB:Z9 (Gw w (w.alloc (.cells #[.int .i64 k,.string t,.int .i64 n,.slice A ps.length c,.slice A2 fs.length c2,.slice A3 vs.length c3] 26))):=Hd ((Gw.refl w).alloc _);obtain⟨A',c',A2',c2',A3',c3',⟨x0,x1,x2,x3,x4,x5⟩,-,hP,hF,hV⟩:=ha.six;generalize kM:w.alloc (.cells #[.int .i64 k,.string t,.int .i64 n,.slice A ps.length c,.slice A2 fs.length c2,.slice A3 vs.length c3] 26)=w0 at kB x0 x1 x2 x3 x4 x5 hP hF hV;have kO:=Hd kM;have HX:Z9 (∀wx,Gw w0 wx->wx.cell? ⟨w.heap.size,3,none⟩=some (.slice A' ps.length c')/\wx.cell? ⟨w.heap.size,4,none⟩=some (.slice A2' fs.length c2')/\wx.cell? ⟨w.heap.size,5,none⟩=some (.slice A3' vs.length c3')):=Hd fun wx hb=>by
  rw[Nat.zero_add]at x3 x4 x5;exact⟨Aa hb.below x3,Aa hb.below x4,Aa hb.below x5⟩
 have HP:=Hd hP;have HF:=Hd hF;have HV:=Hd hV;have kN:=Hd hp;have kL:=Hd hf;have kJ:=Hd hv;have hlp:ps.length<=1000000000000000:=by obtain⟨_,_,hr,_⟩:=hP;exact hr.big
 have hlf:fs.length<=1000000000000000:=by obtain⟨_,_,hr,_⟩:=hF;exact hr.big
 have hlv:vs.length<=1000000000000000:=by obtain⟨_,_,hr,_⟩:=hV;exact hr.big
 clear h ha hP hF hV hp hf hv x0 x1 x2 x3 x4 x5 kM;go_enter Tryz.func8,Tryz.ntmps8;go_wp2_with fail;rw[kO.o]
 go_loopw [3,4] (fun nv v wr=>∃(m i:Nat),i<=ps.length/\v=.int .i64 i/\nv=.int .i64 m/\Dl m (1+Au (ps.take i))/\Gw w0 wr) (fun _ v _=>ps.length - (intOf v).toNat)
 case atStart=>exact⟨1,0,by omega,rfl,rfl,⟨rfl,by omega⟩,Gw.refl _⟩
 case round=>
  obtain⟨m,i,hi,rfl,rfl,ht,hb⟩:=hrel;have HT:=Hd ht;have HB:=Hd hb;obtain⟨y3,y4,y5⟩:=HX.o _ hb;have hm:=ht.2;by_cases hB:i<ps.length/\m<=4096
  ·have t1:decide ((i:Int)<(ps.length:Int))=true:=by simp;omega
   have t2:decide ((m:Int)<=4096)=true:=by simp;omega
   obtain⟨b,o,x,hA,hG,q1,q2,q3,B1,l1,d1,B2,l2,d2,B3,l3,d3,e0,e1,e2,e3,e4,e5,hN⟩:=R2 HP.o kN.o hB.1 hb;subst hA;have KN:=Hd hN;have hI:=Hd (by rw[hG,<-Nat.add_assoc];exact ht.more (x:=x) hB.2:Dl (m+Cj x) (1+Au (ps.take (i+1))));have hM:Cj x<=4097:=Nat.min_le_right _ _;generalize Cj x=cc at KN hI hM;have kA:wrap64 ((m:Int)+(cc:Int))=((m+cc:Nat):Int):=Gn (by omega);have hW:wrap64 ((i:Int)+1)=((i+1:Nat):Int):=Ba (by omega);have hC:=Hd hB;have hU:=hB.1;clear hB ht hb hi hN hG;go_wp2_with fail;refine KN.o.mono ?_;rintro e w2 ⟨rfl,hJ⟩;have hX:=Hd (HB.o.trans hJ);clear hJ KN;go_wp2_with fail;refine⟨⟨m+cc,i+1,hC.o.1,rfl,rfl,hI.o,hX.o⟩,?meas⟩
   case meas=>exact Bg hC.o.1
  ·by_cases kI:i<ps.length
   ·have t1:decide ((i:Int)<(ps.length:Int))=true:=(by simp;omega);have t2:(4096:Int)<(m:Int):=(by omega);have hI:=Hd (show Dl m (1+Au ps) from by obtain⟨x,hx⟩:=Gk ps i;rw[hx,<-Nat.add_assoc];exact ht.full (x:=x) (by omega));clear hB ht hb hi hm;go_wp2_with fail
    go_loopw [3,5] (fun nv v wr=>∃(m i:Nat),i<=fs.length/\v=.int .i64 i/\nv=.int .i64 m/\Dl m (1+Au ps+Bm (fs.take i))/\Gw w0 wr) (fun _ v _=>fs.length - (intOf v).toNat)
    case atStart=>exact⟨_,0,by omega,rfl,rfl,by simpa [Bm] using hI.o,HB.o⟩
    case round=>
     obtain⟨m,i,hi,rfl,rfl,ht,hb⟩:=hrel;have HT:=Hd ht;have HB:=Hd hb;obtain⟨y3,y4,y5⟩:=HX.o _ hb;have hm:=ht.2;by_cases hB:i<fs.length/\m<=4096
     ·have t1:decide ((i:Int)<(fs.length:Int))=true:=(by simp;omega);have t2:decide ((m:Int)<=4096)=true:=(by simp;omega);obtain⟨b,o,x,hA,hG,q1,q2,q3,B1,l1,d1,B2,l2,d2,B3,l3,d3,e0,e1,e2,e3,e4,e5,hN⟩:=Jde HF.o kL.o hB.1 hb;subst hA;have KN:=Hd hN;have hI:=Hd (by rw[hG,<-Nat.add_assoc];exact ht.more (x:=x) hB.2:Dl (m+Cj x) (1+Au ps+Bm (fs.take (i+1))));have hM:Cj x<=4097:=Nat.min_le_right _ _;generalize Cj x=cc at KN hI hM;have kA:wrap64 ((m:Int)+(cc:Int))=((m+cc:Nat):Int):=Gn (by omega);have hW:wrap64 ((i:Int)+1)=((i+1:Nat):Int):=Ba (by omega);have hC:=Hd hB;have hU:=hB.1;clear hB ht hb hi hN hG;go_wp2_with fail;refine KN.o.mono ?_;rintro e w2 ⟨rfl,hJ⟩;have hX:=Hd (HB.o.trans hJ);clear hJ KN;go_wp2_with fail;refine⟨⟨m+cc,i+1,hC.o.1,rfl,rfl,hI.o,hX.o⟩,?meas⟩
      case meas=>exact Bg hC.o.1
     ·by_cases kI:i<fs.length
      ·have t1:decide ((i:Int)<(fs.length:Int))=true:=(by simp;omega);have t2:(4096:Int)<(m:Int):=(by omega);have kD:=Hd (show Dl m (1+Au ps+Bm fs) from by obtain⟨x,hx⟩:=Me fs i;rw[hx,<-Nat.add_assoc];exact ht.full (x:=x) (by omega));clear hB ht hb hi hm;go_wp2_with fail
       go_loopw [3,6] (fun nv v wr=>∃(m i:Nat),i<=vs.length/\v=.int .i64 i/\nv=.int .i64 m/\Dl m (1+Au ps+Bm fs+Bl (vs.take i))/\Gw w0 wr) (fun _ v _=>vs.length - (intOf v).toNat)
       case atStart=>exact⟨_,0,by omega,rfl,rfl,by simpa [Bl] using kD.o,HB.o⟩
       case round=>
        obtain⟨m,i,hi,rfl,rfl,ht,hb⟩:=hrel;have HT:=Hd ht;have HB:=Hd hb;obtain⟨y3,y4,y5⟩:=HX.o _ hb;have hm:=ht.2;by_cases hB:i<vs.length/\m<=4096
        ·have t1:decide ((i:Int)<(vs.length:Int))=true:=(by simp;omega);have t2:decide ((m:Int)<=4096)=true:=(by simp;omega);obtain⟨b,o,B,d,l,hA,hG,hE,hL,hZ⟩:=U2 HV.o kJ.o hB.1;subst hA;have kH:=hL.short;have HL:=Hd hL;have kC:=Hd hZ;have HC:=Hd hE;have hY:=Hd hG;obtain⟨S,hS⟩:∃S,S=1+Au ps+Bm fs+Bl (vs.take i):=⟨_,rfl⟩;have HS:=Hd hS.symm;rw[<-hS]at ht;have kE:=Hd ht;have hC:=Hd hB;have hH:Z9 (wrap64 ((i:Int)+1)=((i+1:Nat):Int)):=Hd (Ba (by omega));have hU:=hB.1;clear hB ht hb hi hE hL hZ hG hS;go_wp2_with fail;clear t1 t2 y3 y4 y5 hm
         go_loopw [3,7] (fun nv v wr=>∃(m j:Nat),j<=l.length/\v=.int .i64 j/\nv=.int .i64 m/\Dl m (S+Au (l.take j))/\Gw w0 wr) (fun _ v _=>l.length - (intOf v).toNat)
         case atStart=>exact⟨_,0,by omega,rfl,rfl,by simpa [Au] using kE.o,HB.o⟩
         case round=>
          obtain⟨m,j,hj,rfl,rfl,ht,hb⟩:=hrel;have hO:=Hd hb;obtain⟨y3,y4,y5⟩:=HX.o _ hb;have yv:=HC.o _ hb;have hm:=ht.2;have hU:=hC.o.1;by_cases hB:j<l.length/\m<=4096
          ·have t1:decide ((j:Int)<(l.length:Int))=true:=(by simp;omega);have t2:decide ((m:Int)<=4096)=true:=(by simp;omega);obtain⟨b4,o4,x,kF,hG,q1,q2,q3,B1,l1,d1,B2,l2,d2,B3,l3,d3,e0,e1,e2,e3,e4,e5,hN⟩:=R2 HL.o kC.o hB.1 hb;subst kF;have KN:=Hd hN;have hI:=Hd (by rw[hG,<-Nat.add_assoc];exact ht.more (x:=x) hB.2:Dl (m+Cj x) (S+Au (l.take (j+1))));have hM:Cj x<=4097:=Nat.min_le_right _ _;generalize Cj x=cc at KN hI hM;have kA:wrap64 ((m:Int)+(cc:Int))=((m+cc:Nat):Int):=Gn (by omega);have hW:wrap64 ((j:Int)+1)=((j+1:Nat):Int):=Ba (by omega);have hK:=Hd hB;have kG:=hB.1;clear hB ht hb hj hN hG;go_wp2_with fail;refine KN.o.mono ?_;rintro e w2 ⟨rfl,hJ⟩;have hX:=Hd (hO.o.trans hJ);clear hJ KN e0 e1 e2 e3 e4 e5 y3 y4 y5 yv t1 t2 hm hM hU kG kH hlp hlf hlv;go_wp2_with fail;refine⟨⟨m+cc,j+1,hK.o.1,(by first|rfl|rw[hW]),(by first|rfl|rw[kA]),hI.o,hX.o⟩,?_⟩;first|exact Bg hK.o.1|exact Ev hK.o.1|(rw[hW];exact Bg hK.o.1)
          ·by_cases kK:j<l.length
           ·have t1:decide ((j:Int)<(l.length:Int))=true:=(by simp;omega);have t2:(4096:Int)<(m:Int):=(by omega);have hT:=Hd (show Dl m (S+Au l) from by obtain⟨x,hx⟩:=Gk l j;rw[hx,<-Nat.add_assoc];exact ht.full (x:=x) (by omega));clear hB ht hb hj hm;go_wp2_with fail;refine⟨⟨m,i+1,hC.o.1,by first|rfl|(rw[hH.o])|(simp only[hH.o])|(simp),rfl,by rw[hY.o,<-Nat.add_assoc,HS.o];exact hT.o,hO.o⟩,?_⟩;first|exact Bg hC.o.1|exact Ev hC.o.1|(rw[hH.o];exact Bg hC.o.1)
           ·have t1:decide ((j:Int)<(l.length:Int))=false:=(by simp;omega);have hT:=Hd (show Dl m (S+Au l) from by have e:l.take j=l:=List.take_of_length_le (by omega);rw[e]at ht;exact ht);clear hB ht hb hj hm;go_wp2_with fail;refine⟨⟨m,i+1,hC.o.1,by first|rfl|(rw[hH.o])|(simp only[hH.o])|(simp),rfl,by rw[hY.o,<-Nat.add_assoc,HS.o];exact hT.o,hO.o⟩,?_⟩;first|exact Bg hC.o.1|exact Ev hC.o.1|(rw[hH.o];exact Bg hC.o.1)
        ·by_cases kI:i<vs.length
         ·have t1:decide ((i:Int)<(vs.length:Int))=true:=(by simp;omega);have t2:(4096:Int)<(m:Int):=(by omega);have hR:=Hd (show Dl m (1+Au ps+Bm fs+Bl vs) from by obtain⟨x,hx⟩:=Ho vs i;rw[hx,<-Nat.add_assoc];exact ht.full (x:=x) (by omega));clear hB ht hb hi hm;go_wp2_with fail;have hD:min (m:Int) 4097=((Cj (Am (.mk k t n ps fs vs)):Nat):Int):=by
           have h1:=hR.o.1;rw[Bu];unfold Cj at h1 ⊢;omega
          have hQ:=Hd hD;clear hD;go_wp2_with fail;go_ret
          exact⟨by rw[<-hQ.o];rfl,kB.o.trans HB.o⟩
         ·have t1:decide ((i:Int)<(vs.length:Int))=false:=(by simp;omega);have hR:=Hd (show Dl m (1+Au ps+Bm fs+Bl vs) from by have e:vs.take i=vs:=List.take_of_length_le (by omega);rw[e]at ht;exact ht);clear hB ht hb hi hm;go_wp2_with fail;have hD:min (m:Int) 4097=((Cj (Am (.mk k t n ps fs vs)):Nat):Int):=by
           have h1:=hR.o.1;rw[Bu];unfold Cj at h1 ⊢;omega
          have hQ:=Hd hD;clear hD;go_wp2_with fail;go_ret
          exact⟨by rw[<-hQ.o];rfl,kB.o.trans HB.o⟩
      ·have t1:decide ((i:Int)<(fs.length:Int))=false:=(by simp;omega);have kD:=Hd (show Dl m (1+Au ps+Bm fs) from by have e:fs.take i=fs:=List.take_of_length_le (by omega);rw[e]at ht;exact ht);clear hB ht hb hi hm;go_wp2_with fail
       go_loopw [3,6] (fun nv v wr=>∃(m i:Nat),i<=vs.length/\v=.int .i64 i/\nv=.int .i64 m/\Dl m (1+Au ps+Bm fs+Bl (vs.take i))/\Gw w0 wr) (fun _ v _=>vs.length - (intOf v).toNat)
       case atStart=>exact⟨_,0,by omega,rfl,rfl,by simpa [Bl] using kD.o,HB.o⟩
       case round=>
        obtain⟨m,i,hi,rfl,rfl,ht,hb⟩:=hrel;have HT:=Hd ht;have HB:=Hd hb;obtain⟨y3,y4,y5⟩:=HX.o _ hb;have hm:=ht.2;by_cases hB:i<vs.length/\m<=4096
        ·have t1:decide ((i:Int)<(vs.length:Int))=true:=(by simp;omega);have t2:decide ((m:Int)<=4096)=true:=(by simp;omega);obtain⟨b,o,B,d,l,hA,hG,hE,hL,hZ⟩:=U2 HV.o kJ.o hB.1;subst hA;have kH:=hL.short;have HL:=Hd hL;have kC:=Hd hZ;have HC:=Hd hE;have hY:=Hd hG;obtain⟨S,hS⟩:∃S,S=1+Au ps+Bm fs+Bl (vs.take i):=⟨_,rfl⟩;have HS:=Hd hS.symm;rw[<-hS]at ht;have kE:=Hd ht;have hC:=Hd hB;have hH:Z9 (wrap64 ((i:Int)+1)=((i+1:Nat):Int)):=Hd (Ba (by omega));have hU:=hB.1;clear hB ht hb hi hE hL hZ hG hS;go_wp2_with fail;clear t1 t2 y3 y4 y5 hm
         go_loopw [3,7] (fun nv v wr=>∃(m j:Nat),j<=l.length/\v=.int .i64 j/\nv=.int .i64 m/\Dl m (S+Au (l.take j))/\Gw w0 wr) (fun _ v _=>l.length - (intOf v).toNat)
         case atStart=>exact⟨_,0,by omega,rfl,rfl,by simpa [Au] using kE.o,HB.o⟩
         case round=>
          obtain⟨m,j,hj,rfl,rfl,ht,hb⟩:=hrel;have hO:=Hd hb;obtain⟨y3,y4,y5⟩:=HX.o _ hb;have yv:=HC.o _ hb;have hm:=ht.2;have hU:=hC.o.1;by_cases hB:j<l.length/\m<=4096
          ·have t1:decide ((j:Int)<(l.length:Int))=true:=(by simp;omega);have t2:decide ((m:Int)<=4096)=true:=(by simp;omega);obtain⟨b4,o4,x,kF,hG,q1,q2,q3,B1,l1,d1,B2,l2,d2,B3,l3,d3,e0,e1,e2,e3,e4,e5,hN⟩:=R2 HL.o kC.o hB.1 hb;subst kF;have KN:=Hd hN;have hI:=Hd (by rw[hG,<-Nat.add_assoc];exact ht.more (x:=x) hB.2:Dl (m+Cj x) (S+Au (l.take (j+1))));have hM:Cj x<=4097:=Nat.min_le_right _ _;generalize Cj x=cc at KN hI hM;have kA:wrap64 ((m:Int)+(cc:Int))=((m+cc:Nat):Int):=Gn (by omega);have hW:wrap64 ((j:Int)+1)=((j+1:Nat):Int):=Ba (by omega);have hK:=Hd hB;have kG:=hB.1;clear hB ht hb hj hN hG;go_wp2_with fail;refine KN.o.mono ?_;rintro e w2 ⟨rfl,hJ⟩;have hX:=Hd (hO.o.trans hJ);clear hJ KN e0 e1 e2 e3 e4 e5 y3 y4 y5 yv t1 t2 hm hM hU kG kH hlp hlf hlv;go_wp2_with fail;refine⟨⟨m+cc,j+1,hK.o.1,(by first|rfl|rw[hW]),(by first|rfl|rw[kA]),hI.o,hX.o⟩,?_⟩;first|exact Bg hK.o.1|exact Ev hK.o.1|(rw[hW];exact Bg hK.o.1)
          ·by_cases kK:j<l.length
           ·have t1:decide ((j:Int)<(l.length:Int))=true:=(by simp;omega);have t2:(4096:Int)<(m:Int):=(by omega);have hT:=Hd (show Dl m (S+Au l) from by obtain⟨x,hx⟩:=Gk l j;rw[hx,<-Nat.add_assoc];exact ht.full (x:=x) (by omega));clear hB ht hb hj hm;go_wp2_with fail;refine⟨⟨m,i+1,hC.o.1,by first|rfl|(rw[hH.o])|(simp only[hH.o])|(simp),rfl,by rw[hY.o,<-Nat.add_assoc,HS.o];exact hT.o,hO.o⟩,?_⟩;first|exact Bg hC.o.1|exact Ev hC.o.1|(rw[hH.o];exact Bg hC.o.1)
           ·have t1:decide ((j:Int)<(l.length:Int))=false:=(by simp;omega);have hT:=Hd (show Dl m (S+Au l) from by have e:l.take j=l:=List.take_of_length_le (by omega);rw[e]at ht;exact ht);clear hB ht hb hj hm;go_wp2_with fail;refine⟨⟨m,i+1,hC.o.1,by first|rfl|(rw[hH.o])|(simp only[hH.o])|(simp),rfl,by rw[hY.o,<-Nat.add_assoc,HS.o];exact hT.o,hO.o⟩,?_⟩;first|exact Bg hC.o.1|exact Ev hC.o.1|(rw[hH.o];exact Bg hC.o.1)
        ·by_cases kI:i<vs.length
         ·have t1:decide ((i:Int)<(vs.length:Int))=true:=(by simp;omega);have t2:(4096:Int)<(m:Int):=(by omega);have hR:=Hd (show Dl m (1+Au ps+Bm fs+Bl vs) from by obtain⟨x,hx⟩:=Ho vs i;rw[hx,<-Nat.add_assoc];exact ht.full (x:=x) (by omega));clear hB ht hb hi hm;go_wp2_with fail;have hD:min (m:Int) 4097=((Cj (Am (.mk k t n ps fs vs)):Nat):Int):=by
           have h1:=hR.o.1;rw[Bu];unfold Cj at h1 ⊢;omega
          have hQ:=Hd hD;clear hD;go_wp2_with fail;go_ret
          exact⟨by rw[<-hQ.o];rfl,kB.o.trans HB.o⟩
         ·have t1:decide ((i:Int)<(vs.length:Int))=false:=(by simp;omega);have hR:=Hd (show Dl m (1+Au ps+Bm fs+Bl vs) from by have e:vs.take i=vs:=List.take_of_length_le (by omega);rw[e]at ht;exact ht);clear hB ht hb hi hm;go_wp2_with fail;have hD:min (m:Int) 4097=((Cj (Am (.mk k t n ps fs vs)):Nat):Int):=by
           have h1:=hR.o.1;rw[Bu];unfold Cj at h1 ⊢;omega
          have hQ:=Hd hD;clear hD;go_wp2_with fail;go_ret
          exact⟨by rw[<-hQ.o];rfl,kB.o.trans HB.o⟩
   ·have t1:decide ((i:Int)<(ps.length:Int))=false:=(by simp;omega);have hI:=Hd (show Dl m (1+Au ps) from by have e:ps.take i=ps:=List.take_of_length_le (by omega);rw[e]at ht;exact ht);clear hB ht hb hi hm;go_wp2_with fail
    go_loopw [3,5] (fun nv v wr=>∃(m i:Nat),i<=fs.length/\v=.int .i64 i/\nv=.int .i64 m/\Dl m (1+Au ps+Bm (fs.take i))/\Gw w0 wr) (fun _ v _=>fs.length - (intOf v).toNat)
    case atStart=>exact⟨_,0,by omega,rfl,rfl,by simpa [Bm] using hI.o,HB.o⟩
    case round=>
     obtain⟨m,i,hi,rfl,rfl,ht,hb⟩:=hrel;have HT:=Hd ht;have HB:=Hd hb;obtain⟨y3,y4,y5⟩:=HX.o _ hb;have hm:=ht.2;by_cases hB:i<fs.length/\m<=4096
     ·have t1:decide ((i:Int)<(fs.length:Int))=true:=(by simp;omega);have t2:decide ((m:Int)<=4096)=true:=(by simp;omega);obtain⟨b,o,x,hA,hG,q1,q2,q3,B1,l1,d1,B2,l2,d2,B3,l3,d3,e0,e1,e2,e3,e4,e5,hN⟩:=Jde HF.o kL.o hB.1 hb;subst hA;have KN:=Hd hN;have hI:=Hd (by rw[hG,<-Nat.add_assoc];exact ht.more (x:=x) hB.2:Dl (m+Cj x) (1+Au ps+Bm (fs.take (i+1))));have hM:Cj x<=4097:=Nat.min_le_right _ _;generalize Cj x=cc at KN hI hM;have kA:wrap64 ((m:Int)+(cc:Int))=((m+cc:Nat):Int):=Gn (by omega);have hW:wrap64 ((i:Int)+1)=((i+1:Nat):Int):=Ba (by omega);have hC:=Hd hB;have hU:=hB.1;clear hB ht hb hi hN hG;go_wp2_with fail;refine KN.o.mono ?_;rintro e w2 ⟨rfl,hJ⟩;have hX:=Hd (HB.o.trans hJ);clear hJ KN;go_wp2_with fail;refine⟨⟨m+cc,i+1,hC.o.1,rfl,rfl,hI.o,hX.o⟩,?meas⟩
      case meas=>exact Bg hC.o.1
     ·by_cases kI:i<fs.length
      ·have t1:decide ((i:Int)<(fs.length:Int))=true:=(by simp;omega);have t2:(4096:Int)<(m:Int):=(by omega);have kD:=Hd (show Dl m (1+Au ps+Bm fs) from by obtain⟨x,hx⟩:=Me fs i;rw[hx,<-Nat.add_assoc];exact ht.full (x:=x) (by omega));clear hB ht hb hi hm;go_wp2_with fail
       go_loopw [3,6] (fun nv v wr=>∃(m i:Nat),i<=vs.length/\v=.int .i64 i/\nv=.int .i64 m/\Dl m (1+Au ps+Bm fs+Bl (vs.take i))/\Gw w0 wr) (fun _ v _=>vs.length - (intOf v).toNat)
       case atStart=>exact⟨_,0,by omega,rfl,rfl,by simpa [Bl] using kD.o,HB.o⟩
       case round=>
        obtain⟨m,i,hi,rfl,rfl,ht,hb⟩:=hrel;have HT:=Hd ht;have HB:=Hd hb;obtain⟨y3,y4,y5⟩:=HX.o _ hb;have hm:=ht.2;by_cases hB:i<vs.length/\m<=4096
        ·have t1:decide ((i:Int)<(vs.length:Int))=true:=(by simp;omega);have t2:decide ((m:Int)<=4096)=true:=(by simp;omega);obtain⟨b,o,B,d,l,hA,hG,hE,hL,hZ⟩:=U2 HV.o kJ.o hB.1;subst hA;have kH:=hL.short;have HL:=Hd hL;have kC:=Hd hZ;have HC:=Hd hE;have hY:=Hd hG;obtain⟨S,hS⟩:∃S,S=1+Au ps+Bm fs+Bl (vs.take i):=⟨_,rfl⟩;have HS:=Hd hS.symm;rw[<-hS]at ht;have kE:=Hd ht;have hC:=Hd hB;have hH:Z9 (wrap64 ((i:Int)+1)=((i+1:Nat):Int)):=Hd (Ba (by omega));have hU:=hB.1;clear hB ht hb hi hE hL hZ hG hS;go_wp2_with fail;clear t1 t2 y3 y4 y5 hm
         go_loopw [3,7] (fun nv v wr=>∃(m j:Nat),j<=l.length/\v=.int .i64 j/\nv=.int .i64 m/\Dl m (S+Au (l.take j))/\Gw w0 wr) (fun _ v _=>l.length - (intOf v).toNat)
         case atStart=>exact⟨_,0,by omega,rfl,rfl,by simpa [Au] using kE.o,HB.o⟩
         case round=>
          obtain⟨m,j,hj,rfl,rfl,ht,hb⟩:=hrel;have hO:=Hd hb;obtain⟨y3,y4,y5⟩:=HX.o _ hb;have yv:=HC.o _ hb;have hm:=ht.2;have hU:=hC.o.1;by_cases hB:j<l.length/\m<=4096
          ·have t1:decide ((j:Int)<(l.length:Int))=true:=(by simp;omega);have t2:decide ((m:Int)<=4096)=true:=(by simp;omega);obtain⟨b4,o4,x,kF,hG,q1,q2,q3,B1,l1,d1,B2,l2,d2,B3,l3,d3,e0,e1,e2,e3,e4,e5,hN⟩:=R2 HL.o kC.o hB.1 hb;subst kF;have KN:=Hd hN;have hI:=Hd (by rw[hG,<-Nat.add_assoc];exact ht.more (x:=x) hB.2:Dl (m+Cj x) (S+Au (l.take (j+1))));have hM:Cj x<=4097:=Nat.min_le_right _ _;generalize Cj x=cc at KN hI hM;have kA:wrap64 ((m:Int)+(cc:Int))=((m+cc:Nat):Int):=Gn (by omega);have hW:wrap64 ((j:Int)+1)=((j+1:Nat):Int):=Ba (by omega);have hK:=Hd hB;have kG:=hB.1;clear hB ht hb hj hN hG;go_wp2_with fail;refine KN.o.mono ?_;rintro e w2 ⟨rfl,hJ⟩;have hX:=Hd (hO.o.trans hJ);clear hJ KN e0 e1 e2 e3 e4 e5 y3 y4 y5 yv t1 t2 hm hM hU kG kH hlp hlf hlv;go_wp2_with fail;refine⟨⟨m+cc,j+1,hK.o.1,(by first|rfl|rw[hW]),(by first|rfl|rw[kA]),hI.o,hX.o⟩,?_⟩;first|exact Bg hK.o.1|exact Ev hK.o.1|(rw[hW];exact Bg hK.o.1)
          ·by_cases kK:j<l.length
           ·have t1:decide ((j:Int)<(l.length:Int))=true:=(by simp;omega);have t2:(4096:Int)<(m:Int):=(by omega);have hT:=Hd (show Dl m (S+Au l) from by obtain⟨x,hx⟩:=Gk l j;rw[hx,<-Nat.add_assoc];exact ht.full (x:=x) (by omega));clear hB ht hb hj hm;go_wp2_with fail;refine⟨⟨m,i+1,hC.o.1,by first|rfl|(rw[hH.o])|(simp only[hH.o])|(simp),rfl,by rw[hY.o,<-Nat.add_assoc,HS.o];exact hT.o,hO.o⟩,?_⟩;first|exact Bg hC.o.1|exact Ev hC.o.1|(rw[hH.o];exact Bg hC.o.1)
           ·have t1:decide ((j:Int)<(l.length:Int))=false:=(by simp;omega);have hT:=Hd (show Dl m (S+Au l) from by have e:l.take j=l:=List.take_of_length_le (by omega);rw[e]at ht;exact ht);clear hB ht hb hj hm;go_wp2_with fail;refine⟨⟨m,i+1,hC.o.1,by first|rfl|(rw[hH.o])|(simp only[hH.o])|(simp),rfl,by rw[hY.o,<-Nat.add_assoc,HS.o];exact hT.o,hO.o⟩,?_⟩;first|exact Bg hC.o.1|exact Ev hC.o.1|(rw[hH.o];exact Bg hC.o.1)
        ·by_cases kI:i<vs.length
         ·have t1:decide ((i:Int)<(vs.length:Int))=true:=(by simp;omega);have t2:(4096:Int)<(m:Int):=(by omega);have hR:=Hd (show Dl m (1+Au ps+Bm fs+Bl vs) from by obtain⟨x,hx⟩:=Ho vs i;rw[hx,<-Nat.add_assoc];exact ht.full (x:=x) (by omega));clear hB ht hb hi hm;go_wp2_with fail;have hD:min (m:Int) 4097=((Cj (Am (.mk k t n ps fs vs)):Nat):Int):=by
           have h1:=hR.o.1;rw[Bu];unfold Cj at h1 ⊢;omega
          have hQ:=Hd hD;clear hD;go_wp2_with fail;go_ret
          exact⟨by rw[<-hQ.o];rfl,kB.o.trans HB.o⟩
         ·have t1:decide ((i:Int)<(vs.length:Int))=false:=(by simp;omega);have hR:=Hd (show Dl m (1+Au ps+Bm fs+Bl vs) from by have e:vs.take i=vs:=List.take_of_length_le (by omega);rw[e]at ht;exact ht);clear hB ht hb hi hm;go_wp2_with fail;have hD:min (m:Int) 4097=((Cj (Am (.mk k t n ps fs vs)):Nat):Int):=by
           have h1:=hR.o.1;rw[Bu];unfold Cj at h1 ⊢;omega
          have hQ:=Hd hD;clear hD;go_wp2_with fail;go_ret
          exact⟨by rw[<-hQ.o];rfl,kB.o.trans HB.o⟩
      ·have t1:decide ((i:Int)<(fs.length:Int))=false:=(by simp;omega);have kD:=Hd (show Dl m (1+Au ps+Bm fs) from by have e:fs.take i=fs:=List.take_of_length_le (by omega);rw[e]at ht;exact ht);clear hB ht hb hi hm;go_wp2_with fail
       go_loopw [3,6] (fun nv v wr=>∃(m i:Nat),i<=vs.length/\v=.int .i64 i/\nv=.int .i64 m/\Dl m (1+Au ps+Bm fs+Bl (vs.take i))/\Gw w0 wr) (fun _ v _=>vs.length - (intOf v).toNat)
       case atStart=>exact⟨_,0,by omega,rfl,rfl,by simpa [Bl] using kD.o,HB.o⟩
       case round=>
        obtain⟨m,i,hi,rfl,rfl,ht,hb⟩:=hrel;have HT:=Hd ht;have HB:=Hd hb;obtain⟨y3,y4,y5⟩:=HX.o _ hb;have hm:=ht.2;by_cases hB:i<vs.length/\m<=4096
        ·have t1:decide ((i:Int)<(vs.length:Int))=true:=(by simp;omega);have t2:decide ((m:Int)<=4096)=true:=(by simp;omega);obtain⟨b,o,B,d,l,hA,hG,hE,hL,hZ⟩:=U2 HV.o kJ.o hB.1;subst hA;have kH:=hL.short;have HL:=Hd hL;have kC:=Hd hZ;have HC:=Hd hE;have hY:=Hd hG;obtain⟨S,hS⟩:∃S,S=1+Au ps+Bm fs+Bl (vs.take i):=⟨_,rfl⟩;have HS:=Hd hS.symm;rw[<-hS]at ht;have kE:=Hd ht;have hC:=Hd hB;have hH:Z9 (wrap64 ((i:Int)+1)=((i+1:Nat):Int)):=Hd (Ba (by omega));have hU:=hB.1;clear hB ht hb hi hE hL hZ hG hS;go_wp2_with fail;clear t1 t2 y3 y4 y5 hm
         go_loopw [3,7] (fun nv v wr=>∃(m j:Nat),j<=l.length/\v=.int .i64 j/\nv=.int .i64 m/\Dl m (S+Au (l.take j))/\Gw w0 wr) (fun _ v _=>l.length - (intOf v).toNat)
         case atStart=>exact⟨_,0,by omega,rfl,rfl,by simpa [Au] using kE.o,HB.o⟩
         case round=>
          obtain⟨m,j,hj,rfl,rfl,ht,hb⟩:=hrel;have hO:=Hd hb;obtain⟨y3,y4,y5⟩:=HX.o _ hb;have yv:=HC.o _ hb;have hm:=ht.2;have hU:=hC.o.1;by_cases hB:j<l.length/\m<=4096
          ·have t1:decide ((j:Int)<(l.length:Int))=true:=(by simp;omega);have t2:decide ((m:Int)<=4096)=true:=(by simp;omega);obtain⟨b4,o4,x,kF,hG,q1,q2,q3,B1,l1,d1,B2,l2,d2,B3,l3,d3,e0,e1,e2,e3,e4,e5,hN⟩:=R2 HL.o kC.o hB.1 hb;subst kF;have KN:=Hd hN;have hI:=Hd (by rw[hG,<-Nat.add_assoc];exact ht.more (x:=x) hB.2:Dl (m+Cj x) (S+Au (l.take (j+1))));have hM:Cj x<=4097:=Nat.min_le_right _ _;generalize Cj x=cc at KN hI hM;have kA:wrap64 ((m:Int)+(cc:Int))=((m+cc:Nat):Int):=Gn (by omega);have hW:wrap64 ((j:Int)+1)=((j+1:Nat):Int):=Ba (by omega);have hK:=Hd hB;have kG:=hB.1;clear hB ht hb hj hN hG;go_wp2_with fail;refine KN.o.mono ?_;rintro e w2 ⟨rfl,hJ⟩;have hX:=Hd (hO.o.trans hJ);clear hJ KN e0 e1 e2 e3 e4 e5 y3 y4 y5 yv t1 t2 hm hM hU kG kH hlp hlf hlv;go_wp2_with fail;refine⟨⟨m+cc,j+1,hK.o.1,(by first|rfl|rw[hW]),(by first|rfl|rw[kA]),hI.o,hX.o⟩,?_⟩;first|exact Bg hK.o.1|exact Ev hK.o.1|(rw[hW];exact Bg hK.o.1)
          ·by_cases kK:j<l.length
           ·have t1:decide ((j:Int)<(l.length:Int))=true:=(by simp;omega);have t2:(4096:Int)<(m:Int):=(by omega);have hT:=Hd (show Dl m (S+Au l) from by obtain⟨x,hx⟩:=Gk l j;rw[hx,<-Nat.add_assoc];exact ht.full (x:=x) (by omega));clear hB ht hb hj hm;go_wp2_with fail;refine⟨⟨m,i+1,hC.o.1,by first|rfl|(rw[hH.o])|(simp only[hH.o])|(simp),rfl,by rw[hY.o,<-Nat.add_assoc,HS.o];exact hT.o,hO.o⟩,?_⟩;first|exact Bg hC.o.1|exact Ev hC.o.1|(rw[hH.o];exact Bg hC.o.1)
           ·have t1:decide ((j:Int)<(l.length:Int))=false:=(by simp;omega);have hT:=Hd (show Dl m (S+Au l) from by have e:l.take j=l:=List.take_of_length_le (by omega);rw[e]at ht;exact ht);clear hB ht hb hj hm;go_wp2_with fail;refine⟨⟨m,i+1,hC.o.1,by first|rfl|(rw[hH.o])|(simp only[hH.o])|(simp),rfl,by rw[hY.o,<-Nat.add_assoc,HS.o];exact hT.o,hO.o⟩,?_⟩;first|exact Bg hC.o.1|exact Ev hC.o.1|(rw[hH.o];exact Bg hC.o.1)
        ·by_cases kI:i<vs.length
         ·have t1:decide ((i:Int)<(vs.length:Int))=true:=(by simp;omega);have t2:(4096:Int)<(m:Int):=(by omega);have hR:=Hd (show Dl m (1+Au ps+Bm fs+Bl vs) from by obtain⟨x,hx⟩:=Ho vs i;rw[hx,<-Nat.add_assoc];exact ht.full (x:=x) (by omega));clear hB ht hb hi hm;go_wp2_with fail;have hD:min (m:Int) 4097=((Cj (Am (.mk k t n ps fs vs)):Nat):Int):=by
           have h1:=hR.o.1;rw[Bu];unfold Cj at h1 ⊢;omega
          have hQ:=Hd hD;clear hD;go_wp2_with fail;go_ret
          exact⟨by rw[<-hQ.o];rfl,kB.o.trans HB.o⟩
         ·have t1:decide ((i:Int)<(vs.length:Int))=false:=(by simp;omega);have hR:=Hd (show Dl m (1+Au ps+Bm fs+Bl vs) from by have e:vs.take i=vs:=List.take_of_length_le (by omega);rw[e]at ht;exact ht);clear hB ht hb hi hm;go_wp2_with fail;have hD:min (m:Int) 4097=((Cj (Am (.mk k t n ps fs vs)):Nat):Int):=by
           have h1:=hR.o.1;rw[Bu];unfold Cj at h1 ⊢;omega
          have hQ:=Hd hD;clear hD;go_wp2_with fail;go_ret
          exact⟨by rw[<-hQ.o];rfl,kB.o.trans HB.o⟩
theorem Lv (t:Ty):L3 t:=Ty.ind (C:=L3) (fun k t n ps fs vs hp hf hv=>Ψ k t n ps fs vs hp hf hv) t
theorem Le {k:Int}{w:World}{b o:Nat}(h:w.cell? ⟨b,o,none⟩=some (.int .i64 k)) (i:Nat):Calls Tryz.prog 97 #[.pointer (some ⟨b,o,none⟩),.int .i64 i] w fun e w'=>e=.returned (.bool (k == 21 && i == 1))/\w'=w:=by
 by_cases hk:k=21
 ·have te:(k == 21)=true:=by simpa using hk
  have ti:((i:Int) == 1)=(i == 1):=by rw[Bool.eq_iff_iff,beq_iff_eq,beq_iff_eq];omega
  generalize (i == 1)=q at ti ⊢;clear hk;go_enter Tryz.func97,Tryz.ntmps97;go_wp2_with fail;go_ret
  exact⟨by rw[te];rfl,rfl⟩
 ·have te:(k == 21)=false:=by simpa using hk
  clear hk;go_enter Tryz.func97,Tryz.ntmps97;go_wp2_with fail;go_ret
  exact⟨by rw[te];rfl,rfl⟩
def Sk (t:Ty):Prop:=∀(K:Nat->Prop) (w:World) (b o:Nat),De K w t b o->Calls Tryz.prog 65 #[.pointer (some ⟨b,o,none⟩)] w fun e w'=>e=.returned (.bool (Fg t))/\w'=w
theorem Tc {k:Int}{ps:List Ty}{i:Nat}(h:i<ps.length):G7 k i (ps.drop i)=((!(k == 21 && i == 1) && Fg ps[i]) || G7 k (i+1) (ps.drop (i+1))):=by
 rw[List.drop_eq_getElem_cons h,G7]
theorem Tb {fs:Bx}{i:Nat}(h:i<fs.length):I0 (fs.drop i)=(Fg fs[i].2.2 || I0 (fs.drop (i+1))):=by
 rw[List.drop_eq_getElem_cons h,I0,List.any_cons];rfl
theorem Jd9 {K:Nat->Prop}{ps:List Ty}{w:World}{A:Option Addr}{c i:Nat}(hP:Bk K w ps A c) (h:∀p∈ps,Sk p) (hi:i<ps.length):∃b o,A=some ⟨b,o,none⟩/\Calls Tryz.prog 65 #[.pointer (some ⟨b,o+i*6,none⟩)] w fun e w'=>e=.returned (.bool (Fg ps[i]))/\w'=w:=by
 obtain⟨b,o,hA,_,hr⟩:=hP.at (by omega);exact⟨b,o,hA,h _ (List.getElem_mem hi) K w b _ (hr i hi)⟩
theorem Jd8 {K:Nat->Prop}{fs:Bx}{w:World}{A:Option Addr}{c i:Nat}(hP:Dt K w fs A c) (h:∀f∈fs,Sk f.2.2) (hi:i<fs.length):∃b o,A=some ⟨b,o,none⟩/\Calls Tryz.prog 65 #[.pointer (some ⟨b,o+i*8+2,none⟩)] w fun e w'=>e=.returned (.bool (Fg fs[i].2.2))/\w'=w:=by
 obtain⟨b,o,hA,_,hr⟩:=hP.at (by omega);exact⟨b,o,hA,h _ (List.getElem_mem hi) K w b _ (hr i hi).2.2.2⟩
theorem Dt.shortF {K:Nat->Prop}{w:World}{l:Bx}{A:Option Addr}{c:Nat}(h:Dt K w l A c):l.length<=1000000000000000:=by
 obtain⟨_,_,hr,_⟩:=h;exact hr.big
theorem Zy (k:Int) (t:Z8) (n:Int) (ps:List Ty) (fs:Bx) (vs:Bt) (hp:∀p∈ps,Sk p) (hf:∀f∈fs,Sk f.2.2):Sk (.mk k t n ps fs vs):=by
 intro K w b o h;obtain⟨A,c,A2,c2,A3,c3,⟨x0,x1,x2,x3,x4,x5⟩,-,hP,hF,-⟩:=h.six;rw[Pq];have hlp:=hP.short;have hlf:=hF.shortF;have PT:=Hd (Le x0);have HP:=Hd fun i hi=>Jd9 hP hp (i:=i) hi;have HF:=Hd fun i hi=>Jd8 hF hf (i:=i) hi;clear h hP hF hp hf x1 x2 x5;by_cases hk:k=22
 ·have te:(k == 22)=true:=by simpa using hk
  clear hk hlp hlf;go_enter Tryz.func65,Tryz.ntmps65;go_wp2_with fail;go_ret
  exact⟨by rw[te];rfl,rfl⟩
 have te:(k == 22)=false:=by simpa using hk
 have hE:=Hd te;clear hk;go_enter Tryz.func65,Tryz.ntmps65;go_wp2_with fail
 go_loopw [15] (fun v wr=>∃(i:Nat),i<=ps.length/\v=.int .i64 i/\G7 k 0 ps=G7 k i (ps.drop i)/\wr=w) (fun v _=>ps.length - (intOf v).toNat)
 case atStart=>exact⟨0,by omega,rfl,by rw[List.drop_zero],rfl⟩
 case round=>
  obtain⟨i,hi,rfl,he,rfl⟩:=hrel;have HE:=Hd he;clear he;by_cases hC:i<ps.length
  ·have t1:decide ((i:Int)<(ps.length:Int))=true:=by simp;omega
   have hD:wrap64 ((i:Int)+1)=((i+1:Nat):Int):=Ba (by omega);obtain⟨pb,po,hA,hN⟩:=HP.o i hC;have KN:=Hd hN;have HS:=Hd (Tc (k:=k) hC);have PI:=Hd (PT.o i);have hB:=Hd hC;subst hA;generalize hq:(k == 21 && i == 1)=q at PI HS;generalize hr:Fg ps[i]=r at KN HS;clear hN hi hq hr;go_wp2_with fail;refine PI.o.mono ?_;rintro e w2 ⟨rfl,rfl⟩
   cases q with
   | true=>
    go_wp2_with fail;refine⟨⟨i+1,hB.o,by first|rfl|rw[hD],by rw[HE.o,HS.o];rfl,by first|trivial|rfl⟩,?_⟩;first|exact Bg hB.o|exact Ev hB.o|(rw[hD];exact Bg hB.o)
   | false=>
    go_wp2_with fail;refine KN.o.mono ?_;rintro e w3 ⟨rfl,rfl⟩
    cases r with
    | true=>
     go_wp2_with fail;go_ret
     exact⟨by rw[HE.o,HS.o,hE.o];rfl,rfl⟩
    | false=>
     go_wp2_with fail;refine⟨⟨i+1,hB.o,by first|rfl|rw[hD],by rw[HE.o,HS.o];rfl,by first|trivial|rfl⟩,?_⟩;first|exact Bg hB.o|exact Ev hB.o|(rw[hD];exact Bg hB.o)
  ·have t1:decide ((i:Int)<(ps.length:Int))=false:=by simp;omega
   have hG:Z9 (G7 k 0 ps=false):=Hd (by rw[HE.o,List.drop_eq_nil_of_le (by omega)];rfl);clear hi;go_wp2_with fail
   go_loopw [37] (fun v wx=>∃(i:Nat),i<=fs.length/\v=.int .i64 i/\I0 fs=I0 (fs.drop i)/\wx=wr) (fun v _=>fs.length - (intOf v).toNat)
   case atStart=>exact⟨0,by omega,rfl,by rw[List.drop_zero],rfl⟩
   case round=>
    obtain⟨i,hi,rfl,he,rfl⟩:=hrel;have HE:=Hd he;clear he;by_cases hC:i<fs.length
    ·have t1:decide ((i:Int)<(fs.length:Int))=true:=(by simp;omega);have hD:wrap64 ((i:Int)+1)=((i+1:Nat):Int):=Ba (by omega);obtain⟨pb,po,hA,hN⟩:=HF.o i hC;have KN:=Hd hN;have HS:=Hd (Tb hC);have hB:=Hd hC;subst hA;generalize hr:Fg fs[i].2.2=r at KN HS;clear hN hi hr;go_wp2_with fail;refine KN.o.mono ?_;rintro e w3 ⟨rfl,rfl⟩
     cases r with
     | true=>
      go_wp2_with fail;go_ret
      exact⟨by rw[HE.o,HS.o,hE.o,hG.o];rfl,rfl⟩
     | false=>
      go_wp2_with fail;refine⟨⟨i+1,hB.o,by first|rfl|rw[hD],by rw[HE.o,HS.o];rfl,by first|trivial|rfl⟩,?_⟩;first|exact Bg hB.o|exact Ev hB.o|(rw[hD];exact Bg hB.o)
    ·have t1:decide ((i:Int)<(fs.length:Int))=false:=(by simp;omega);have hH:Z9 (I0 fs=false):=Hd (by rw[HE.o,List.drop_eq_nil_of_le (by omega)];rfl);clear hi;go_wp2_with fail;go_ret
     exact⟨by rw[hE.o,hG.o,hH.o];rfl,rfl⟩
theorem Jb3 (t:Ty):Sk t:=Ty.ind (C:=Sk) (fun k t n ps fs vs hp hf _=>Zy k t n ps fs vs hp hf) t
