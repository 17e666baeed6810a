import Derived.Test.YtlpfpehegddcfaaGreatDoorMw5
namespace Go.Proofs.YtlpfpehegddcfaaGreatDoor
set_option maxRecDepth 100000
set_option maxHeartbeats 64000000
open Go.RowKit
theorem Wt {K K':Nat->Prop}{w:World}{t t':Ty}{cs cs':List Value}(h:An K w t cs) (h':An K' w t' cs') :
  Calls Tryz.prog 101 #[.agg cs.toArray,.agg cs'.toArray] w fun e w'=>e=.returned (.int .i64 (B6 t t'))/\Gw w w':=by
 have hA:Gw w (w.alloc (.cells cs.toArray 26)):=(Gw.refl w).alloc _;have hB:Gw w ((w.alloc (.cells cs.toArray 26)).alloc (.cells cs'.toArray 26)):=hA.alloc _;have a1:Dm K ((w.alloc (.cells cs.toArray 26)).alloc (.cells cs'.toArray 26)) t w.heap.size 0:=(Dm.box _ h).later ((Below.refl _ _).alloc (Nat.le_refl _) _);have a2:Dm K' ((w.alloc (.cells cs.toArray 26)).alloc (.cells cs'.toArray 26)) t' (w.heap.size+1) 0:=by
  have:=Dm.box (w:=w.alloc (.cells cs.toArray 26)) 26 (h'.later hA.below);rw[World.size_alloc]at this;exact this
 have KO:=Hd ((Lo t K K' t').ok _ _ _ _ _ a1 a2);have HB:=Hd hB;obtain⟨k,s,n,ps,fs,vs⟩:=t;obtain⟨k',s',n',ps',fs',vs'⟩:=t';obtain⟨A,c,A',c',A'',c'',rfl,_⟩:=h.inv;obtain⟨B,d,B',d',B'',d'',rfl,_⟩:=h'.inv;clear a1 a2 hA hB h h';generalize B6 (.mk k s n ps fs vs) (.mk k' s' n' ps' fs' vs')=r at KO ⊢;simp only[Ao]at KO HB ⊢;go_enter Tryz.func101,Tryz.ntmps101;go_wp2_with fail;refine KO.o.mono ?_;rintro e w1 ⟨rfl,hb⟩;have HB1:=Hd (HB.o.trans hb);clear hb;go_wp2_with fail;go_ret
 exact⟨rfl,HB1.o⟩
def Am:Ty->Nat
 | .mk _ _ _ ps fs vs=>1+((ps.attach.map fun ⟨p,_⟩=>Am p).sum+((fs.attach.map fun ⟨f,_⟩=>Am f.2.2).sum+(vs.attach.map fun ⟨v,_⟩=>(v.2.attach.map fun ⟨b,_⟩=>Am b).sum).sum))
termination_by t=>SizeOf.sizeOf t
decreasing_by
 ·exact D8 ‹_›
 ·exact E2 ‹_›
 ·exact Fy ‹_› ‹_›
def Au (l:List Ty):Nat:=(l.map Am).sum
def Bm (l:Bv):Nat:=(l.map fun f=>Am f.2.2).sum
def Br (l:Bw):Nat:=(l.map fun v=>Au v.2).sum
theorem B0 (k t n ps fs vs):Am (.mk k t n ps fs vs)=1+(Au ps+(Bm fs+Br vs)):=by
 rw[Am];unfold Au Bm Br Au;simp only[List.map_attach_eq_pmap,List.pmap_eq_map]
def Cs (n:Nat):Nat:=min n 4097
def Dq (n S:Nat):Prop:=Cs n=Cs S/\n<=8193
theorem Dq.more {n S x:Nat}(h:Dq n S) (hn:n<=4096):Dq (n+Cs x) (S+x):=by
 unfold Dq Cs at *;omega
theorem Dq.full {n S x:Nat}(h:Dq n S) (hn:¬ n<=4096):Dq n (S+x):=by
 unfold Dq Cs at *;omega
theorem Om {α:Type}{l:List α}{i:Nat}(h:i<l.length):l.take (i+1)=l.take i++[l[i]]:=by
 rw[List.take_add_one,List.getElem?_eq_getElem h];rfl
theorem Xe {l:List Ty}{i:Nat}(h:i<l.length):Au (l.take (i+1))=Au (l.take i)+Am l[i]:=by
 unfold Au;rw[Om h,List.map_append,List.sum_append];simp only[List.map_cons,List.map_nil,List.sum_cons,List.sum_nil,Nat.add_zero]
theorem W9 {l:Bv}{i:Nat}(h:i<l.length):Bm (l.take (i+1))=Bm (l.take i)+Am l[i].2.2:=by
 unfold Bm;rw[Om h,List.map_append,List.sum_append];simp only[List.map_cons,List.map_nil,List.sum_cons,List.sum_nil,Nat.add_zero]
theorem Xg {l:Bw}{i:Nat}(h:i<l.length):Br (l.take (i+1))=Br (l.take i)+Au l[i].2:=by
 unfold Br;rw[Om h,List.map_append,List.sum_append];simp only[List.map_cons,List.map_nil,List.sum_cons,List.sum_nil,Nat.add_zero]
theorem G0 (l:List Ty) (i:Nat):∃x,Au l=Au (l.take i)+x:=⟨Au (l.drop i),by unfold Au;rw[<-List.sum_append,<-List.map_append,List.take_append_drop]⟩
theorem Nr (l:Bv) (i:Nat):∃x,Bm l=Bm (l.take i)+x:=⟨Bm (l.drop i),by unfold Bm;rw[<-List.sum_append,<-List.map_append,List.take_append_drop]⟩
theorem H8 (l:Bw) (i:Nat):∃x,Br l=Br (l.take i)+x:=⟨Br (l.drop i),by unfold Br;rw[<-List.sum_append,<-List.map_append,List.take_append_drop]⟩
theorem Dm.vals {K:Nat->Prop}{w:World}{t:Ty}{b o:Nat}(h:Dm K w t b o) :
  ∃k s n A lp c A' lf c' A'' lv c'',An K w t [.int .i64 k,.string s,.int .i64 n,.slice A lp c,.slice A' lf c',.slice A'' lv c'']/\w.cell? ⟨b,o,none⟩=some (.int .i64 k)/\w.cell? ⟨b,o+1,none⟩=some (.string s)/\w.cell? ⟨b,o+2,none⟩=some (.int .i64 n)/\w.cell? ⟨b,o+3,none⟩=some (.slice A lp c)/\w.cell? ⟨b,o+4,none⟩=some (.slice A' lf c')/\w.cell? ⟨b,o+5,none⟩=some (.slice A'' lv c''):=by
 obtain⟨k,s,n,ps,fs,vs⟩:=t;obtain⟨cs,h1,h2⟩:=h;obtain⟨A,c,A',c',A'',c'',rfl,_⟩:=h2.inv;exact⟨k,s,n,A,ps.length,c,A',fs.length,c',A'',vs.length,c'',h2,h1 0 _ rfl,h1 1 _ rfl,h1 2 _ rfl,h1 3 _ rfl,h1 4 _ rfl,h1 5 _ rfl⟩
def Ng (t:Ty):Prop:=∀(K:Nat->Prop) (w:World) (cs:List Value),An K w t cs->Calls Tryz.prog 8 #[.agg cs.toArray] w fun e w'=>e=.returned (.int .i64 (Cs (Am t):Nat))/\Gw w w'
def Zl (wr:World) (b o x:Nat):Prop:=∃q1 q2 q3 B1 l1 d1 B2 l2 d2 B3 l3 d3,wr.cell? ⟨b,o,none⟩=some (.int .i64 q1)/\wr.cell? ⟨b,o+1,none⟩=some (.string q2)/\wr.cell? ⟨b,o+2,none⟩=some (.int .i64 q3)/\wr.cell? ⟨b,o+3,none⟩=some (.slice B1 l1 d1)/\wr.cell? ⟨b,o+4,none⟩=some (.slice B2 l2 d2)/\wr.cell? ⟨b,o+5,none⟩=some (.slice B3 l3 d3)/\Calls Tryz.prog 8 #[.agg #[.int .i64 q1,.string q2,.int .i64 q3,.slice B1 l1 d1,.slice B2 l2 d2,.slice B3 l3 d3]] wr fun e w'=>e=.returned (.int .i64 (Cs x:Nat))/\Gw wr w'
theorem Jbr {K:Nat->Prop}{t:Ty}(h:Ng t) {wr:World}{b o:Nat}(ha:Dm K wr t b o):Zl wr b o (Am t):=by
 obtain⟨q1,q2,q3,B1,l1,d1,B2,l2,d2,B3,l3,d3,hA,e0,e1,e2,e3,e4,e5⟩:=ha.vals;exact⟨q1,q2,q3,B1,l1,d1,B2,l2,d2,B3,l3,d3,e0,e1,e2,e3,e4,e5,h K wr _ hA⟩
theorem S7 {K:Nat->Prop}{ps:List Ty}{w0 wr:World}{A:Option Addr}{c i:Nat}(hP:Bh K w0 ps A c) (h:∀p∈ps,Ng p) (hi:i<ps.length) (hb:Gw w0 wr):∃b o x,A=some ⟨b,o,none⟩/\Au (ps.take (i+1))=Au (ps.take i)+x/\Zl wr b (o+i*6) x:=by
 obtain⟨b,o,hA,_,hr⟩:=hP.at (by omega);exact⟨b,o,_,hA,Xe hi,Jbr (h _ (List.getElem_mem hi)) ((hr i hi).later hb.below)⟩
theorem Jfs {K:Nat->Prop}{fs:Bv}{w0 wr:World}{A:Option Addr}{c i:Nat}(hP:Du K w0 fs A c) (h:∀f∈fs,Ng f.2.2) (hi:i<fs.length) (hb:Gw w0 wr):∃b o x,A=some ⟨b,o,none⟩/\Bm (fs.take (i+1))=Bm (fs.take i)+x/\Zl wr b (o+i*8+2) x:=by
 obtain⟨b,o,hA,_,hr⟩:=hP.at (by omega);exact⟨b,o,_,hA,W9 hi,Jbr (h _ (List.getElem_mem hi)) ((hr i hi).2.2.2.later hb.below)⟩
theorem We {K:Nat->Prop}{vs:Bw}{w0:World}{A:Option Addr}{c i:Nat}(hP:Dd K w0 vs A c) (h:∀v∈vs,∀b∈v.2,Ng b) (hi:i<vs.length):∃b o B d,∃l:List Ty,A=some ⟨b,o,none⟩/\Br (vs.take (i+1))=Br (vs.take i)+Au l/\(∀wr,Gw w0 wr->wr.cell? ⟨b,o+i*2+1,none⟩=some (.slice B l.length d))/\Bh K w0 l B d/\(∀p∈l,Ng p):=by
 obtain⟨b,o,hA,_,hr⟩:=hP.at (by omega);obtain⟨B,d,_,h1,_,h2⟩:=hr i hi;exact⟨b,o,B,d,vs[i].2,hA,Xg hi,fun wr hb=>Aa hb.below h1,h2,h _ (List.getElem_mem hi)⟩
theorem Bh.short {K:Nat->Prop}{w:World}{l:List Ty}{A:Option Addr}{c:Nat}(h:Bh K w l A c):l.length<=1000000000000000:=by
 obtain⟨_,_,hr,_⟩:=h;exact hr.big
theorem Cq {n:Int}(h:0<=n) (h':n<=1000000000000000000):wrap64 n=n:=by
 have e:IntKind.i64.wrap n=wrap64 n:=by unfold wrap64;exact IntKind.wrap_i64 n
 rw[<-e];simp[IntKind.wrap,IntKind.bits,IntKind.signed];omega
theorem Bf {i k:Nat}(h:i<k):k - (intOf (Value.int .i64 ((i+1:Nat):Int))).toNat<k - (intOf (Value.int .i64 (i:Int))).toNat:=by
 simp only[intOf];omega
theorem G5 {a b:Nat}(h:a+b<=1000000000000000000):wrap64 ((a:Int)+(b:Int))=((a+b:Nat):Int):=by rw[Cq (by omega) (by omega)];omega
theorem Ax {a:Nat}(h:a<=100000000000000000):wrap64 ((a:Int)+1)=((a+1:Nat):Int):=by rw[Cq (by omega) (by omega)];omega
theorem Jbs (k:Int) (t:Z8) (n:Int) (ps:List Ty) (fs:Bv) (vs:Bw) (hp:∀p∈ps,Ng p) (hf:∀f∈fs,Ng f.2.2) (hv:∀v∈vs,∀b∈v.2,Ng b):Ng (.mk k t n ps fs vs):=by
 intro K w cs h;have ha:=(Dm.box 26 h);obtain⟨A,c,A2,c2,A3,c3,rfl,-⟩:=h.inv;simp only[Ao]at ha ⊢;have kB:Z9 (Gw w (w.alloc (.cells #[.int .i64 k,.string t,.int .i64 n,.slice A ps.length c,.slice A2 fs.length c2,.slice A3 vs.length c3] 26))):=Hd ((Gw.refl w).alloc _);obtain⟨A',c',A2',c2',A3',c3',⟨x0,x1,x2,x3,x4,x5⟩,-,hP,hF,hV⟩:=ha.six;generalize kM:w.alloc (.cells #[.int .i64 k,.string t,.int .i64 n,.slice A ps.length c,.slice A2 fs.length c2,.slice A3 vs.length c3] 26)=w0 at kB x0 x1 x2 x3 x4 x5 hP hF hV;have kO:=Hd kM;have HX:Z9 (∀wx,Gw w0 wx->wx.cell? ⟨w.heap.size,3,none⟩=some (.slice A' ps.length c')/\wx.cell? ⟨w.heap.size,4,none⟩=some (.slice A2' fs.length c2')/\wx.cell? ⟨w.heap.size,5,none⟩=some (.slice A3' vs.length c3')):=Hd fun wx hb=>by
  rw[Nat.zero_add]at x3 x4 x5;exact⟨Aa hb.below x3,Aa hb.below x4,Aa hb.below x5⟩
 have HP:=Hd hP;have HF:=Hd hF;have HV:=Hd hV;have kN:=Hd hp;have kL:=Hd hf;have kJ:=Hd hv;have hlp:ps.length<=1000000000000000:=by obtain⟨_,_,hr,_⟩:=hP;exact hr.big
 have hlf:fs.length<=1000000000000000:=by obtain⟨_,_,hr,_⟩:=hF;exact hr.big
 have hlv:vs.length<=1000000000000000:=by obtain⟨_,_,hr,_⟩:=hV;exact hr.big
 clear h ha hP hF hV hp hf hv x0 x1 x2 x3 x4 x5 kM;go_enter Tryz.func8,Tryz.ntmps8;go_wp2_with fail;rw[kO.o]
 go_loopw [3,4] (fun nv v wr=>∃(m i:Nat),i<=ps.length/\v=.int .i64 i/\nv=.int .i64 m/\Dq m (1+Au (ps.take i))/\Gw w0 wr) (fun _ v _=>ps.length - (intOf v).toNat)
 case atStart=>exact⟨1,0,by omega,rfl,rfl,⟨rfl,by omega⟩,Gw.refl _⟩
 case round=>
  obtain⟨m,i,hi,rfl,rfl,ht,hb⟩:=hrel;have HT:=Hd ht;have HB:=Hd hb;obtain⟨y3,y4,y5⟩:=HX.o _ hb;have hm:=ht.2;by_cases hB:i<ps.length/\m<=4096
  ·have t1:decide ((i:Int)<(ps.length:Int))=true:=by simp;omega
   have t2:decide ((m:Int)<=4096)=true:=by simp;omega
   obtain⟨b,o,x,hA,hG,q1,q2,q3,B1,l1,d1,B2,l2,d2,B3,l3,d3,e0,e1,e2,e3,e4,e5,hN⟩:=S7 HP.o kN.o hB.1 hb;subst hA;have KN:=Hd hN;have hI:=Hd (by rw[hG,<-Nat.add_assoc];exact ht.more (x:=x) hB.2:Dq (m+Cs x) (1+Au (ps.take (i+1))));have hM:Cs x<=4097:=Nat.min_le_right _ _;generalize Cs x=cc at KN hI hM;have kA:wrap64 ((m:Int)+(cc:Int))=((m+cc:Nat):Int):=G5 (by omega);have hW:wrap64 ((i:Int)+1)=((i+1:Nat):Int):=Ax (by omega);have hC:=Hd hB;have hU:=hB.1;clear hB ht hb hi hN hG;go_wp2_with fail;refine KN.o.mono ?_;rintro e w2 ⟨rfl,hJ⟩;have hX:=Hd (HB.o.trans hJ);clear hJ KN;go_wp2_with fail;refine⟨⟨m+cc,i+1,hC.o.1,rfl,rfl,hI.o,hX.o⟩,?meas⟩
   case meas=>exact Bf hC.o.1
  ·by_cases kI:i<ps.length
   ·have t1:decide ((i:Int)<(ps.length:Int))=true:=(by simp;omega);have t2:(4096:Int)<(m:Int):=(by omega);have hI:=Hd (show Dq m (1+Au ps) from by obtain⟨x,hx⟩:=G0 ps i;rw[hx,<-Nat.add_assoc];exact ht.full (x:=x) (by omega));clear hB ht hb hi hm;go_wp2_with fail
    go_loopw [3,5] (fun nv v wr=>∃(m i:Nat),i<=fs.length/\v=.int .i64 i/\nv=.int .i64 m/\Dq m (1+Au ps+Bm (fs.take i))/\Gw w0 wr) (fun _ v _=>fs.length - (intOf v).toNat)
    case atStart=>exact⟨_,0,by omega,rfl,rfl,by simpa [Bm] using hI.o,HB.o⟩
    case round=>
     obtain⟨m,i,hi,rfl,rfl,ht,hb⟩:=hrel;have HT:=Hd ht;have HB:=Hd hb;obtain⟨y3,y4,y5⟩:=HX.o _ hb;have hm:=ht.2;by_cases hB:i<fs.length/\m<=4096
     ·have t1:decide ((i:Int)<(fs.length:Int))=true:=(by simp;omega);have t2:decide ((m:Int)<=4096)=true:=(by simp;omega);obtain⟨b,o,x,hA,hG,q1,q2,q3,B1,l1,d1,B2,l2,d2,B3,l3,d3,e0,e1,e2,e3,e4,e5,hN⟩:=Jfs HF.o kL.o hB.1 hb;subst hA;have KN:=Hd hN;have hI:=Hd (by rw[hG,<-Nat.add_assoc];exact ht.more (x:=x) hB.2:Dq (m+Cs x) (1+Au ps+Bm (fs.take (i+1))));have hM:Cs x<=4097:=Nat.min_le_right _ _;generalize Cs x=cc at KN hI hM;have kA:wrap64 ((m:Int)+(cc:Int))=((m+cc:Nat):Int):=G5 (by omega);have hW:wrap64 ((i:Int)+1)=((i+1:Nat):Int):=Ax (by omega);have hC:=Hd hB;have hU:=hB.1;clear hB ht hb hi hN hG;go_wp2_with fail;refine KN.o.mono ?_;rintro e w2 ⟨rfl,hJ⟩;have hX:=Hd (HB.o.trans hJ);clear hJ KN;go_wp2_with fail;refine⟨⟨m+cc,i+1,hC.o.1,rfl,rfl,hI.o,hX.o⟩,?meas⟩
      case meas=>exact Bf hC.o.1
     ·by_cases kI:i<fs.length
      ·have t1:decide ((i:Int)<(fs.length:Int))=true:=(by simp;omega);have t2:(4096:Int)<(m:Int):=(by omega);have kD:=Hd (show Dq m (1+Au ps+Bm fs) from by obtain⟨x,hx⟩:=Nr fs i;rw[hx,<-Nat.add_assoc];exact ht.full (x:=x) (by omega));clear hB ht hb hi hm;go_wp2_with fail
       go_loopw [3,6] (fun nv v wr=>∃(m i:Nat),i<=vs.length/\v=.int .i64 i/\nv=.int .i64 m/\Dq m (1+Au ps+Bm fs+Br (vs.take i))/\Gw w0 wr) (fun _ v _=>vs.length - (intOf v).toNat)
       case atStart=>exact⟨_,0,by omega,rfl,rfl,by simpa [Br] using kD.o,HB.o⟩
       case round=>
        obtain⟨m,i,hi,rfl,rfl,ht,hb⟩:=hrel;have HT:=Hd ht;have HB:=Hd hb;obtain⟨y3,y4,y5⟩:=HX.o _ hb;have hm:=ht.2;by_cases hB:i<vs.length/\m<=4096
        ·have t1:decide ((i:Int)<(vs.length:Int))=true:=(by simp;omega);have t2:decide ((m:Int)<=4096)=true:=(by simp;omega);obtain⟨b,o,B,d,l,hA,hG,hE,hL,hZ⟩:=We HV.o kJ.o hB.1;subst hA;have kH:=hL.short;have HL:=Hd hL;have kC:=Hd hZ;have HC:=Hd hE;have hY:=Hd hG;obtain⟨S,hS⟩:∃S,S=1+Au ps+Bm fs+Br (vs.take i):=⟨_,rfl⟩;have HS:=Hd hS.symm;rw[<-hS]at ht;have kE:=Hd ht;have hC:=Hd hB;have hH:Z9 (wrap64 ((i:Int)+1)=((i+1:Nat):Int)):=Hd (Ax (by omega));have hU:=hB.1;clear hB ht hb hi hE hL hZ hG hS;go_wp2_with fail;clear t1 t2 y3 y4 y5 hm
         go_loopw [3,7] (fun nv v wr=>∃(m j:Nat),j<=l.length/\v=.int .i64 j/\nv=.int .i64 m/\Dq m (S+Au (l.take j))/\Gw w0 wr) (fun _ v _=>l.length - (intOf v).toNat)
         case atStart=>exact⟨_,0,by omega,rfl,rfl,by simpa [Au] using kE.o,HB.o⟩
         case round=>
          obtain⟨m,j,hj,rfl,rfl,ht,hb⟩:=hrel;have hO:=Hd hb;obtain⟨y3,y4,y5⟩:=HX.o _ hb;have yv:=HC.o _ hb;have hm:=ht.2;have hU:=hC.o.1;by_cases hB:j<l.length/\m<=4096
          ·have t1:decide ((j:Int)<(l.length:Int))=true:=(by simp;omega);have t2:decide ((m:Int)<=4096)=true:=(by simp;omega);obtain⟨b4,o4,x,kF,hG,q1,q2,q3,B1,l1,d1,B2,l2,d2,B3,l3,d3,e0,e1,e2,e3,e4,e5,hN⟩:=S7 HL.o kC.o hB.1 hb;subst kF;have KN:=Hd hN;have hI:=Hd (by rw[hG,<-Nat.add_assoc];exact ht.more (x:=x) hB.2:Dq (m+Cs x) (S+Au (l.take (j+1))));have hM:Cs x<=4097:=Nat.min_le_right _ _;generalize Cs x=cc at KN hI hM;have kA:wrap64 ((m:Int)+(cc:Int))=((m+cc:Nat):Int):=G5 (by omega);have hW:wrap64 ((j:Int)+1)=((j+1:Nat):Int):=Ax (by omega);have hK:=Hd hB;have kG:=hB.1;clear hB ht hb hj hN hG;go_wp2_with fail;refine KN.o.mono ?_;rintro e w2 ⟨rfl,hJ⟩;have hX:=Hd (hO.o.trans hJ);clear hJ KN e0 e1 e2 e3 e4 e5 y3 y4 y5 yv t1 t2 hm hM hU kG kH hlp hlf hlv;go_wp2_with fail;refine⟨⟨m+cc,j+1,hK.o.1,(by first|rfl|rw[hW]),(by first|rfl|rw[kA]),hI.o,hX.o⟩,?_⟩;first|exact Bf hK.o.1|exact E4 hK.o.1|(rw[hW];exact Bf hK.o.1)
          ·by_cases kK:j<l.length
           ·have t1:decide ((j:Int)<(l.length:Int))=true:=(by simp;omega);have t2:(4096:Int)<(m:Int):=(by omega);have hT:=Hd (show Dq m (S+Au l) from by obtain⟨x,hx⟩:=G0 l j;rw[hx,<-Nat.add_assoc];exact ht.full (x:=x) (by omega));clear hB ht hb hj hm;go_wp2_with fail;refine⟨⟨m,i+1,hC.o.1,by first|rfl|(rw[hH.o])|(simp only[hH.o])|(simp),rfl,by rw[hY.o,<-Nat.add_assoc,HS.o];exact hT.o,hO.o⟩,?_⟩;first|exact Bf hC.o.1|exact E4 hC.o.1|(rw[hH.o];exact Bf hC.o.1)
           ·have t1:decide ((j:Int)<(l.length:Int))=false:=(by simp;omega);have hT:=Hd (show Dq m (S+Au l) from by have e:l.take j=l:=List.take_of_length_le (by omega);rw[e]at ht;exact ht);clear hB ht hb hj hm;go_wp2_with fail;refine⟨⟨m,i+1,hC.o.1,by first|rfl|(rw[hH.o])|(simp only[hH.o])|(simp),rfl,by rw[hY.o,<-Nat.add_assoc,HS.o];exact hT.o,hO.o⟩,?_⟩;first|exact Bf hC.o.1|exact E4 hC.o.1|(rw[hH.o];exact Bf hC.o.1)
        ·by_cases kI:i<vs.length
         ·have t1:decide ((i:Int)<(vs.length:Int))=true:=(by simp;omega);have t2:(4096:Int)<(m:Int):=(by omega);have hR:=Hd (show Dq m (1+Au ps+Bm fs+Br vs) from by obtain⟨x,hx⟩:=H8 vs i;rw[hx,<-Nat.add_assoc];exact ht.full (x:=x) (by omega));clear hB ht hb hi hm;go_wp2_with fail;have hD:min (m:Int) 4097=((Cs (Am (.mk k t n ps fs vs)):Nat):Int):=by
           have h1:=hR.o.1;rw[B0];unfold Cs at h1 ⊢;omega
          have hQ:=Hd hD;clear hD;go_wp2_with fail;go_ret
          exact⟨by rw[<-hQ.o];rfl,kB.o.trans HB.o⟩
         ·have t1:decide ((i:Int)<(vs.length:Int))=false:=(by simp;omega);have hR:=Hd (show Dq m (1+Au ps+Bm fs+Br vs) from by have e:vs.take i=vs:=List.take_of_length_le (by omega);rw[e]at ht;exact ht);clear hB ht hb hi hm;go_wp2_with fail;have hD:min (m:Int) 4097=((Cs (Am (.mk k t n ps fs vs)):Nat):Int):=by
           have h1:=hR.o.1;rw[B0];unfold Cs at h1 ⊢;omega
          have hQ:=Hd hD;clear hD;go_wp2_with fail;go_ret
          exact⟨by rw[<-hQ.o];rfl,kB.o.trans HB.o⟩
      ·have t1:decide ((i:Int)<(fs.length:Int))=false:=(by simp;omega);have kD:=Hd (show Dq m (1+Au ps+Bm fs) from by have e:fs.take i=fs:=List.take_of_length_le (by omega);rw[e]at ht;exact ht);clear hB ht hb hi hm;go_wp2_with fail
       go_loopw [3,6] (fun nv v wr=>∃(m i:Nat),i<=vs.length/\v=.int .i64 i/\nv=.int .i64 m/\Dq m (1+Au ps+Bm fs+Br (vs.take i))/\Gw w0 wr) (fun _ v _=>vs.length - (intOf v).toNat)
       case atStart=>exact⟨_,0,by omega,rfl,rfl,by simpa [Br] using kD.o,HB.o⟩
       case round=>
        obtain⟨m,i,hi,rfl,rfl,ht,hb⟩:=hrel;have HT:=Hd ht;have HB:=Hd hb;obtain⟨y3,y4,y5⟩:=HX.o _ hb;have hm:=ht.2;by_cases hB:i<vs.length/\m<=4096
        ·have t1:decide ((i:Int)<(vs.length:Int))=true:=(by simp;omega);have t2:decide ((m:Int)<=4096)=true:=(by simp;omega);obtain⟨b,o,B,d,l,hA,hG,hE,hL,hZ⟩:=We HV.o kJ.o hB.1;subst hA;have kH:=hL.short;have HL:=Hd hL;have kC:=Hd hZ;have HC:=Hd hE;have hY:=Hd hG;obtain⟨S,hS⟩:∃S,S=1+Au ps+Bm fs+Br (vs.take i):=⟨_,rfl⟩;have HS:=Hd hS.symm;rw[<-hS]at ht;have kE:=Hd ht;have hC:=Hd hB;have hH:Z9 (wrap64 ((i:Int)+1)=((i+1:Nat):Int)):=Hd (Ax (by omega));have hU:=hB.1;clear hB ht hb hi hE hL hZ hG hS;go_wp2_with fail;clear t1 t2 y3 y4 y5 hm
         go_loopw [3,7] (fun nv v wr=>∃(m j:Nat),j<=l.length/\v=.int .i64 j/\nv=.int .i64 m/\Dq m (S+Au (l.take j))/\Gw w0 wr) (fun _ v _=>l.length - (intOf v).toNat)
         case atStart=>exact⟨_,0,by omega,rfl,rfl,by simpa [Au] using kE.o,HB.o⟩
         case round=>
          obtain⟨m,j,hj,rfl,rfl,ht,hb⟩:=hrel;have hO:=Hd hb;obtain⟨y3,y4,y5⟩:=HX.o _ hb;have yv:=HC.o _ hb;have hm:=ht.2;have hU:=hC.o.1;by_cases hB:j<l.length/\m<=4096
          ·have t1:decide ((j:Int)<(l.length:Int))=true:=(by simp;omega);have t2:decide ((m:Int)<=4096)=true:=(by simp;omega);obtain⟨b4,o4,x,kF,hG,q1,q2,q3,B1,l1,d1,B2,l2,d2,B3,l3,d3,e0,e1,e2,e3,e4,e5,hN⟩:=S7 HL.o kC.o hB.1 hb;subst kF;have KN:=Hd hN;have hI:=Hd (by rw[hG,<-Nat.add_assoc];exact ht.more (x:=x) hB.2:Dq (m+Cs x) (S+Au (l.take (j+1))));have hM:Cs x<=4097:=Nat.min_le_right _ _;generalize Cs x=cc at KN hI hM;have kA:wrap64 ((m:Int)+(cc:Int))=((m+cc:Nat):Int):=G5 (by omega);have hW:wrap64 ((j:Int)+1)=((j+1:Nat):Int):=Ax (by omega);have hK:=Hd hB;have kG:=hB.1;clear hB ht hb hj hN hG;go_wp2_with fail;refine KN.o.mono ?_;rintro e w2 ⟨rfl,hJ⟩;have hX:=Hd (hO.o.trans hJ);clear hJ KN e0 e1 e2 e3 e4 e5 y3 y4 y5 yv t1 t2 hm hM hU kG kH hlp hlf hlv;go_wp2_with fail;refine⟨⟨m+cc,j+1,hK.o.1,(by first|rfl|rw[hW]),(by first|rfl|rw[kA]),hI.o,hX.o⟩,?_⟩;first|exact Bf hK.o.1|exact E4 hK.o.1|(rw[hW];exact Bf hK.o.1)
          ·by_cases kK:j<l.length
           ·have t1:decide ((j:Int)<(l.length:Int))=true:=(by simp;omega);have t2:(4096:Int)<(m:Int):=(by omega);have hT:=Hd (show Dq m (S+Au l) from by obtain⟨x,hx⟩:=G0 l j;rw[hx,<-Nat.add_assoc];exact ht.full (x:=x) (by omega));clear hB ht hb hj hm;go_wp2_with fail;refine⟨⟨m,i+1,hC.o.1,by first|rfl|(rw[hH.o])|(simp only[hH.o])|(simp),rfl,by rw[hY.o,<-Nat.add_assoc,HS.o];exact hT.o,hO.o⟩,?_⟩;first|exact Bf hC.o.1|exact E4 hC.o.1|(rw[hH.o];exact Bf hC.o.1)
           ·have t1:decide ((j:Int)<(l.length:Int))=false:=(by simp;omega);have hT:=Hd (show Dq m (S+Au l) from by have e:l.take j=l:=List.take_of_length_le (by omega);rw[e]at ht;exact ht);clear hB ht hb hj hm;go_wp2_with fail;refine⟨⟨m,i+1,hC.o.1,by first|rfl|(rw[hH.o])|(simp only[hH.o])|(simp),rfl,by rw[hY.o,<-Nat.add_assoc,HS.o];exact hT.o,hO.o⟩,?_⟩;first|exact Bf hC.o.1|exact E4 hC.o.1|(rw[hH.o];exact Bf hC.o.1)
        ·by_cases kI:i<vs.length
         ·have t1:decide ((i:Int)<(vs.length:Int))=true:=(by simp;omega);have t2:(4096:Int)<(m:Int):=(by omega);have hR:=Hd (show Dq m (1+Au ps+Bm fs+Br vs) from by obtain⟨x,hx⟩:=H8 vs i;rw[hx,<-Nat.add_assoc];exact ht.full (x:=x) (by omega));clear hB ht hb hi hm;go_wp2_with fail;have hD:min (m:Int) 4097=((Cs (Am (.mk k t n ps fs vs)):Nat):Int):=by
           have h1:=hR.o.1;rw[B0];unfold Cs at h1 ⊢;omega
          have hQ:=Hd hD;clear hD;go_wp2_with fail;go_ret
          exact⟨by rw[<-hQ.o];rfl,kB.o.trans HB.o⟩
         ·have t1:decide ((i:Int)<(vs.length:Int))=false:=(by simp;omega);have hR:=Hd (show Dq m (1+Au ps+Bm fs+Br vs) from by have e:vs.take i=vs:=List.take_of_length_le (by omega);rw[e]at ht;exact ht);clear hB ht hb hi hm;go_wp2_with fail;have hD:min (m:Int) 4097=((Cs (Am (.mk k t n ps fs vs)):Nat):Int):=by
           have h1:=hR.o.1;rw[B0];unfold Cs at h1 ⊢;omega
          have hQ:=Hd hD;clear hD;go_wp2_with fail;go_ret
          exact⟨by rw[<-hQ.o];rfl,kB.o.trans HB.o⟩
   ·have t1:decide ((i:Int)<(ps.length:Int))=false:=(by simp;omega);have hI:=Hd (show Dq m (1+Au ps) from by have e:ps.take i=ps:=List.take_of_length_le (by omega);rw[e]at ht;exact ht);clear hB ht hb hi hm;go_wp2_with fail
    go_loopw [3,5] (fun nv v wr=>∃(m i:Nat),i<=fs.length/\v=.int .i64 i/\nv=.int .i64 m/\Dq m (1+Au ps+Bm (fs.take i))/\Gw w0 wr) (fun _ v _=>fs.length - (intOf v).toNat)
    case atStart=>exact⟨_,0,by omega,rfl,rfl,by simpa [Bm] using hI.o,HB.o⟩
    case round=>
     obtain⟨m,i,hi,rfl,rfl,ht,hb⟩:=hrel;have HT:=Hd ht;have HB:=Hd hb;obtain⟨y3,y4,y5⟩:=HX.o _ hb;have hm:=ht.2;by_cases hB:i<fs.length/\m<=4096
     ·have t1:decide ((i:Int)<(fs.length:Int))=true:=(by simp;omega);have t2:decide ((m:Int)<=4096)=true:=(by simp;omega);obtain⟨b,o,x,hA,hG,q1,q2,q3,B1,l1,d1,B2,l2,d2,B3,l3,d3,e0,e1,e2,e3,e4,e5,hN⟩:=Jfs HF.o kL.o hB.1 hb;subst hA;have KN:=Hd hN;have hI:=Hd (by rw[hG,<-Nat.add_assoc];exact ht.more (x:=x) hB.2:Dq (m+Cs x) (1+Au ps+Bm (fs.take (i+1))));have hM:Cs x<=4097:=Nat.min_le_right _ _;generalize Cs x=cc at KN hI hM;have kA:wrap64 ((m:Int)+(cc:Int))=((m+cc:Nat):Int):=G5 (by omega);have hW:wrap64 ((i:Int)+1)=((i+1:Nat):Int):=Ax (by omega);have hC:=Hd hB;have hU:=hB.1;clear hB ht hb hi hN hG;go_wp2_with fail;refine KN.o.mono ?_;rintro e w2 ⟨rfl,hJ⟩;have hX:=Hd (HB.o.trans hJ);clear hJ KN;go_wp2_with fail;refine⟨⟨m+cc,i+1,hC.o.1,rfl,rfl,hI.o,hX.o⟩,?meas⟩
      case meas=>exact Bf hC.o.1
     ·by_cases kI:i<fs.length
      ·have t1:decide ((i:Int)<(fs.length:Int))=true:=(by simp;omega);have t2:(4096:Int)<(m:Int):=(by omega);have kD:=Hd (show Dq m (1+Au ps+Bm fs) from by obtain⟨x,hx⟩:=Nr fs i;rw[hx,<-Nat.add_assoc];exact ht.full (x:=x) (by omega));clear hB ht hb hi hm;go_wp2_with fail
       go_loopw [3,6] (fun nv v wr=>∃(m i:Nat),i<=vs.length/\v=.int .i64 i/\nv=.int .i64 m/\Dq m (1+Au ps+Bm fs+Br (vs.take i))/\Gw w0 wr) (fun _ v _=>vs.length - (intOf v).toNat)
       case atStart=>exact⟨_,0,by omega,rfl,rfl,by simpa [Br] using kD.o,HB.o⟩
       case round=>
        obtain⟨m,i,hi,rfl,rfl,ht,hb⟩:=hrel;have HT:=Hd ht;have HB:=Hd hb;obtain⟨y3,y4,y5⟩:=HX.o _ hb;have hm:=ht.2;by_cases hB:i<vs.length/\m<=4096
        ·have t1:decide ((i:Int)<(vs.length:Int))=true:=(by simp;omega);have t2:decide ((m:Int)<=4096)=true:=(by simp;omega);obtain⟨b,o,B,d,l,hA,hG,hE,hL,hZ⟩:=We HV.o kJ.o hB.1;subst hA;have kH:=hL.short;have HL:=Hd hL;have kC:=Hd hZ;have HC:=Hd hE;have hY:=Hd hG;obtain⟨S,hS⟩:∃S,S=1+Au ps+Bm fs+Br (vs.take i):=⟨_,rfl⟩;have HS:=Hd hS.symm;rw[<-hS]at ht;have kE:=Hd ht;have hC:=Hd hB;have hH:Z9 (wrap64 ((i:Int)+1)=((i+1:Nat):Int)):=Hd (Ax (by omega));have hU:=hB.1;clear hB ht hb hi hE hL hZ hG hS;go_wp2_with fail;clear t1 t2 y3 y4 y5 hm
         go_loopw [3,7] (fun nv v wr=>∃(m j:Nat),j<=l.length/\v=.int .i64 j/\nv=.int .i64 m/\Dq m (S+Au (l.take j))/\Gw w0 wr) (fun _ v _=>l.length - (intOf v).toNat)
         case atStart=>exact⟨_,0,by omega,rfl,rfl,by simpa [Au] using kE.o,HB.o⟩
         case round=>
          obtain⟨m,j,hj,rfl,rfl,ht,hb⟩:=hrel;have hO:=Hd hb;obtain⟨y3,y4,y5⟩:=HX.o _ hb;have yv:=HC.o _ hb;have hm:=ht.2;have hU:=hC.o.1;by_cases hB:j<l.length/\m<=4096
          ·have t1:decide ((j:Int)<(l.length:Int))=true:=(by simp;omega);have t2:decide ((m:Int)<=4096)=true:=(by simp;omega);obtain⟨b4,o4,x,kF,hG,q1,q2,q3,B1,l1,d1,B2,l2,d2,B3,l3,d3,e0,e1,e2,e3,e4,e5,hN⟩:=S7 HL.o kC.o hB.1 hb;subst kF;have KN:=Hd hN;have hI:=Hd (by rw[hG,<-Nat.add_assoc];exact ht.more (x:=x) hB.2:Dq (m+Cs x) (S+Au (l.take (j+1))));have hM:Cs x<=4097:=Nat.min_le_right _ _;generalize Cs x=cc at KN hI hM;have kA:wrap64 ((m:Int)+(cc:Int))=((m+cc:Nat):Int):=G5 (by omega);have hW:wrap64 ((j:Int)+1)=((j+1:Nat):Int):=Ax (by omega);have hK:=Hd hB;have kG:=hB.1;clear hB ht hb hj hN hG;go_wp2_with fail;refine KN.o.mono ?_;rintro e w2 ⟨rfl,hJ⟩;have hX:=Hd (hO.o.trans hJ);clear hJ KN e0 e1 e2 e3 e4 e5 y3 y4 y5 yv t1 t2 hm hM hU kG kH hlp hlf hlv;go_wp2_with fail;refine⟨⟨m+cc,j+1,hK.o.1,(by first|rfl|rw[hW]),(by first|rfl|rw[kA]),hI.o,hX.o⟩,?_⟩;first|exact Bf hK.o.1|exact E4 hK.o.1|(rw[hW];exact Bf hK.o.1)
          ·by_cases kK:j<l.length
           ·have t1:decide ((j:Int)<(l.length:Int))=true:=(by simp;omega);have t2:(4096:Int)<(m:Int):=(by omega);have hT:=Hd (show Dq m (S+Au l) from by obtain⟨x,hx⟩:=G0 l j;rw[hx,<-Nat.add_assoc];exact ht.full (x:=x) (by omega));clear hB ht hb hj hm;go_wp2_with fail;refine⟨⟨m,i+1,hC.o.1,by first|rfl|(rw[hH.o])|(simp only[hH.o])|(simp),rfl,by rw[hY.o,<-Nat.add_assoc,HS.o];exact hT.o,hO.o⟩,?_⟩;first|exact Bf hC.o.1|exact E4 hC.o.1|(rw[hH.o];exact Bf hC.o.1)
           ·have t1:decide ((j:Int)<(l.length:Int))=false:=(by simp;omega);have hT:=Hd (show Dq m (S+Au l) from by have e:l.take j=l:=List.take_of_length_le (by omega);rw[e]at ht;exact ht);clear hB ht hb hj hm;go_wp2_with fail;refine⟨⟨m,i+1,hC.o.1,by first|rfl|(rw[hH.o])|(simp only[hH.o])|(simp),rfl,by rw[hY.o,<-Nat.add_assoc,HS.o];exact hT.o,hO.o⟩,?_⟩;first|exact Bf hC.o.1|exact E4 hC.o.1|(rw[hH.o];exact Bf hC.o.1)
        ·by_cases kI:i<vs.length
         ·have t1:decide ((i:Int)<(vs.length:Int))=true:=(by simp;omega);have t2:(4096:Int)<(m:Int):=(by omega);have hR:=Hd (show Dq m (1+Au ps+Bm fs+Br vs) from by obtain⟨x,hx⟩:=H8 vs i;rw[hx,<-Nat.add_assoc];exact ht.full (x:=x) (by omega));clear hB ht hb hi hm;go_wp2_with fail;have hD:min (m:Int) 4097=((Cs (Am (.mk k t n ps fs vs)):Nat):Int):=by
           have h1:=hR.o.1;rw[B0];unfold Cs at h1 ⊢;omega
          have hQ:=Hd hD;clear hD;go_wp2_with fail;go_ret
          exact⟨by rw[<-hQ.o];rfl,kB.o.trans HB.o⟩
         ·have t1:decide ((i:Int)<(vs.length:Int))=false:=(by simp;omega);have hR:=Hd (show Dq m (1+Au ps+Bm fs+Br vs) from by have e:vs.take i=vs:=List.take_of_length_le (by omega);rw[e]at ht;exact ht);clear hB ht hb hi hm;go_wp2_with fail;have hD:min (m:Int) 4097=((Cs (Am (.mk k t n ps fs vs)):Nat):Int):=by
           have h1:=hR.o.1;rw[B0];unfold Cs at h1 ⊢;omega
          have hQ:=Hd hD;clear hD;go_wp2_with fail;go_ret
          exact⟨by rw[<-hQ.o];rfl,kB.o.trans HB.o⟩
      ·have t1:decide ((i:Int)<(fs.length:Int))=false:=(by simp;omega);have kD:=Hd (show Dq m (1+Au ps+Bm fs) from by have e:fs.take i=fs:=List.take_of_length_le (by omega);rw[e]at ht;exact ht);clear hB ht hb hi hm;go_wp2_with fail
       go_loopw [3,6] (fun nv v wr=>∃(m i:Nat),i<=vs.length/\v=.int .i64 i/\nv=.int .i64 m/\Dq m (1+Au ps+Bm fs+Br (vs.take i))/\Gw w0 wr) (fun _ v _=>vs.length - (intOf v).toNat)
       case atStart=>exact⟨_,0,by omega,rfl,rfl,by simpa [Br] using kD.o,HB.o⟩
       case round=>
        obtain⟨m,i,hi,rfl,rfl,ht,hb⟩:=hrel;have HT:=Hd ht;have HB:=Hd hb;obtain⟨y3,y4,y5⟩:=HX.o _ hb;have hm:=ht.2;by_cases hB:i<vs.length/\m<=4096
        ·have t1:decide ((i:Int)<(vs.length:Int))=true:=(by simp;omega);have t2:decide ((m:Int)<=4096)=true:=(by simp;omega);obtain⟨b,o,B,d,l,hA,hG,hE,hL,hZ⟩:=We HV.o kJ.o hB.1;subst hA;have kH:=hL.short;have HL:=Hd hL;have kC:=Hd hZ;have HC:=Hd hE;have hY:=Hd hG;obtain⟨S,hS⟩:∃S,S=1+Au ps+Bm fs+Br (vs.take i):=⟨_,rfl⟩;have HS:=Hd hS.symm;rw[<-hS]at ht;have kE:=Hd ht;have hC:=Hd hB;have hH:Z9 (wrap64 ((i:Int)+1)=((i+1:Nat):Int)):=Hd (Ax (by omega));have hU:=hB.1;clear hB ht hb hi hE hL hZ hG hS;go_wp2_with fail;clear t1 t2 y3 y4 y5 hm
         go_loopw [3,7] (fun nv v wr=>∃(m j:Nat),j<=l.length/\v=.int .i64 j/\nv=.int .i64 m/\Dq m (S+Au (l.take j))/\Gw w0 wr) (fun _ v _=>l.length - (intOf v).toNat)
         case atStart=>exact⟨_,0,by omega,rfl,rfl,by simpa [Au] using kE.o,HB.o⟩
         case round=>
          obtain⟨m,j,hj,rfl,rfl,ht,hb⟩:=hrel;have hO:=Hd hb;obtain⟨y3,y4,y5⟩:=HX.o _ hb;have yv:=HC.o _ hb;have hm:=ht.2;have hU:=hC.o.1;by_cases hB:j<l.length/\m<=4096
          ·have t1:decide ((j:Int)<(l.length:Int))=true:=(by simp;omega);have t2:decide ((m:Int)<=4096)=true:=(by simp;omega);obtain⟨b4,o4,x,kF,hG,q1,q2,q3,B1,l1,d1,B2,l2,d2,B3,l3,d3,e0,e1,e2,e3,e4,e5,hN⟩:=S7 HL.o kC.o hB.1 hb;subst kF;have KN:=Hd hN;have hI:=Hd (by rw[hG,<-Nat.add_assoc];exact ht.more (x:=x) hB.2:Dq (m+Cs x) (S+Au (l.take (j+1))));have hM:Cs x<=4097:=Nat.min_le_right _ _;generalize Cs x=cc at KN hI hM;have kA:wrap64 ((m:Int)+(cc:Int))=((m+cc:Nat):Int):=G5 (by omega);have hW:wrap64 ((j:Int)+1)=((j+1:Nat):Int):=Ax (by omega);have hK:=Hd hB;have kG:=hB.1;clear hB ht hb hj hN hG;go_wp2_with fail;refine KN.o.mono ?_;rintro e w2 ⟨rfl,hJ⟩;have hX:=Hd (hO.o.trans hJ);clear hJ KN e0 e1 e2 e3 e4 e5 y3 y4 y5 yv t1 t2 hm hM hU kG kH hlp hlf hlv;go_wp2_with fail;refine⟨⟨m+cc,j+1,hK.o.1,(by first|rfl|rw[hW]),(by first|rfl|rw[kA]),hI.o,hX.o⟩,?_⟩;first|exact Bf hK.o.1|exact E4 hK.o.1|(rw[hW];exact Bf hK.o.1)
          ·by_cases kK:j<l.length
           ·have t1:decide ((j:Int)<(l.length:Int))=true:=(by simp;omega);have t2:(4096:Int)<(m:Int):=(by omega);have hT:=Hd (show Dq m (S+Au l) from by obtain⟨x,hx⟩:=G0 l j;rw[hx,<-Nat.add_assoc];exact ht.full (x:=x) (by omega));clear hB ht hb hj hm;go_wp2_with fail;refine⟨⟨m,i+1,hC.o.1,by first|rfl|(rw[hH.o])|(simp only[hH.o])|(simp),rfl,by rw[hY.o,<-Nat.add_assoc,HS.o];exact hT.o,hO.o⟩,?_⟩;first|exact Bf hC.o.1|exact E4 hC.o.1|(rw[hH.o];exact Bf hC.o.1)
           ·have t1:decide ((j:Int)<(l.length:Int))=false:=(by simp;omega);have hT:=Hd (show Dq m (S+Au l) from by have e:l.take j=l:=List.take_of_length_le (by omega);rw[e]at ht;exact ht);clear hB ht hb hj hm;go_wp2_with fail;refine⟨⟨m,i+1,hC.o.1,by first|rfl|(rw[hH.o])|(simp only[hH.o])|(simp),rfl,by rw[hY.o,<-Nat.add_assoc,HS.o];exact hT.o,hO.o⟩,?_⟩;first|exact Bf hC.o.1|exact E4 hC.o.1|(rw[hH.o];exact Bf hC.o.1)
        ·by_cases kI:i<vs.length
         ·have t1:decide ((i:Int)<(vs.length:Int))=true:=(by simp;omega);have t2:(4096:Int)<(m:Int):=(by omega);have hR:=Hd (show Dq m (1+Au ps+Bm fs+Br vs) from by obtain⟨x,hx⟩:=H8 vs i;rw[hx,<-Nat.add_assoc];exact ht.full (x:=x) (by omega));clear hB ht hb hi hm;go_wp2_with fail;have hD:min (m:Int) 4097=((Cs (Am (.mk k t n ps fs vs)):Nat):Int):=by
           have h1:=hR.o.1;rw[B0];unfold Cs at h1 ⊢;omega
          have hQ:=Hd hD;clear hD;go_wp2_with fail;go_ret
          exact⟨by rw[<-hQ.o];rfl,kB.o.trans HB.o⟩
         ·have t1:decide ((i:Int)<(vs.length:Int))=false:=(by simp;omega);have hR:=Hd (show Dq m (1+Au ps+Bm fs+Br vs) from by have e:vs.take i=vs:=List.take_of_length_le (by omega);rw[e]at ht;exact ht);clear hB ht hb hi hm;go_wp2_with fail;have hD:min (m:Int) 4097=((Cs (Am (.mk k t n ps fs vs)):Nat):Int):=by
           have h1:=hR.o.1;rw[B0];unfold Cs at h1 ⊢;omega
          have hQ:=Hd hD;clear hD;go_wp2_with fail;go_ret
          exact⟨by rw[<-hQ.o];rfl,kB.o.trans HB.o⟩
theorem Wd (t:Ty):Ng t:=Ty.ind (C:=Ng) (fun k t n ps fs vs hp hf hv=>Jbs k t n ps fs vs hp hf hv) t
