import Derived.Test.YtlpfpehegddcfaaGreatDoorMx6
namespace Go.Proofs.YtlpfpehegddcfaaGreatDoor
set_option maxRecDepth 100000
set_option maxHeartbeats 64000000
open Go.RowKit
def KB (w:World) (g:Nat) (h:El):Prop:=w.heap[g]?=some (.cells #[.bool h.a,.bool h.u,.bool h.n,.bool h.s] 143 (0,0))
def Jf (h:El) (k:Int):El:=⟨h.a || k == 3,h.u || k == 2,h.n || k == 7,h.s || k == 8⟩
def Ku (g:Nat) (w w':World):Prop:=w'=w\/∃j v,w'=w.setCell ⟨g,j,none⟩ v
theorem Ku.block {g:Nat}{w w':World}(h:Ku g w w') {b:Nat}(hb:b≠g):w'.heap[b]?=w.heap[b]?:=by
 rcases h with rfl|⟨j,v,rfl⟩
 ·rfl
 ·exact Below.heap_setCell _ _ _ _ hb
theorem Ku.below {g B:Nat}{a w w':World}(h:Ku g w w') (hb:Below B a w) (hg:B<=g):Below B a w':=by
 rcases h with rfl|⟨j,v,rfl⟩
 ·exact hb
 ·exact hb.setCell hg _
theorem Rt {w:World}{g:Nat}{h:El}(hk:KB w g h):w.cell? ⟨g,0,none⟩=some (.bool h.a)/\w.cell? ⟨g,1,none⟩=some (.bool h.u)/\w.cell? ⟨g,2,none⟩=some (.bool h.n)/\w.cell? ⟨g,3,none⟩=some (.bool h.s):=
 ⟨cell_of_row _ _ 0 _ _ _ hk,cell_of_row _ _ 1 _ _ _ hk,cell_of_row _ _ 2 _ _ _ hk,cell_of_row _ _ 3 _ _ _ hk⟩
theorem Ps {w:World}{g:Nat}{h:El}(hk:KB w g h) (j:Nat) (v:Value):(w.setCell ⟨g,j,none⟩ v).heap[g]?=some (.cells (#[.bool h.a,.bool h.u,.bool h.n,.bool h.s].setIfInBounds j v) 143 (0,0)):=
 Go.heap_setCell_same w g j _ _ v hk
theorem Ls {w:World}{g:Nat}{h:El}(hk:KB w g h) (o:Nat):w.frozen? ⟨g,o,none⟩=false:=Lib.frozen_of_heap hk o
theorem Va {w:World}{g:Nat}{h:El}{b o:Nat}{k:Int}(hk:KB w g h) (hc:w.cell? ⟨b,o,none⟩=some (.int .i64 k)) :
  Calls Tryz.prog 138 #[.pointer (some ⟨g,0,none⟩),.pointer (some ⟨b,o,none⟩)] w fun e w'=>e=.returned (.tuple #[])/\KB w' g (Jf h k)/\Ku g w w':=by
 obtain⟨c0,c1,c2,c3⟩:=Rt hk;have f0:=Ls hk 0;have f1:=Ls hk 1;have f2:=Ls hk 2;have f3:=Ls hk 3;have HK:=Hd hk;clear hk;by_cases h3:k=3
 ·subst h3;go_enter Tryz.func138,Tryz.ntmps138;go_wp2_with fail;exact bodyPost_end (v:=.tuple #[]) (by simp[results,Tryz.results138,go_sem]) rfl ⟨rfl,by unfold KB;rw[Ps HK.o];simp[Jf],.inr ⟨_,_,rfl⟩⟩
 by_cases h2:k=2
 ·subst h2;go_enter Tryz.func138,Tryz.ntmps138;go_wp2_with fail;exact bodyPost_end (v:=.tuple #[]) (by simp[results,Tryz.results138,go_sem]) rfl ⟨rfl,by unfold KB;rw[Ps HK.o];simp[Jf],.inr ⟨_,_,rfl⟩⟩
 by_cases h7:k=7
 ·subst h7;go_enter Tryz.func138,Tryz.ntmps138;go_wp2_with fail;exact bodyPost_end (v:=.tuple #[]) (by simp[results,Tryz.results138,go_sem]) rfl ⟨rfl,by unfold KB;rw[Ps HK.o];simp[Jf],.inr ⟨_,_,rfl⟩⟩
 by_cases h8:k=8
 ·subst h8;go_enter Tryz.func138,Tryz.ntmps138;go_wp2_with fail;exact bodyPost_end (v:=.tuple #[]) (by simp[results,Tryz.results138,go_sem]) rfl ⟨rfl,by unfold KB;rw[Ps HK.o];simp[Jf],.inr ⟨_,_,rfl⟩⟩
 have t3:(k == 3)=false:=by simpa using h3
 have t2:(k == 2)=false:=by simpa using h2
 have t7:(k == 7)=false:=by simpa using h7
 have t8:(k == 8)=false:=by simpa using h8
 have hs:Jf h k=h:=by unfold Jf;rw[t3,t2,t7,t8];simp
 have HS:=Hd hs;clear h2 h3 h7 h8 hs;go_enter Tryz.func138,Tryz.ntmps138;go_wp2_with fail;exact bodyPost_end (v:=.tuple #[]) (by simp[results,Tryz.results138,go_sem]) rfl ⟨rfl,by rw[HS.o];exact HK.o,.inl rfl⟩
theorem Ru {K:Nat->Prop}{w:World}{g:Nat}{h:El}{t:Ty}{b o:Nat}(hk:KB w g h) (ht:De K w t b o) :
  Calls Tryz.prog 99 #[.pointer (some ⟨g,0,none⟩),.pointer (some ⟨b,o,none⟩)] w fun e w'=>e=.returned (.bool (Fa h t))/\w'=w:=by
 obtain⟨c0,c1,c2,c3⟩:=Rt hk;have KI:=Hd (Jb3 t K w b o ht);obtain⟨k,s,n,ps,fs,vs⟩:=t;obtain⟨A,c,A2,d2,A3,d3,⟨x0,-,-,-,-,-⟩,-⟩:=ht.six;generalize hi:Fg (.mk k s n ps fs vs)=q at KI;have hB:Fa h (.mk k s n ps fs vs)=if k=1 then false else if k=3 then true else if k=2/\h.a=false then true else if h.a=true\/h.u=true then q else if k=9 then !h.n else if k=10 then !h.s else true:=by unfold Fa;rw[hi];rfl
 rw[hB];obtain⟨ha,hu,hn,hs⟩:=h;simp only at c0 c1 c2 c3 ⊢;clear hk ht hi hB;by_cases h1:k=1
 ·subst h1;go_enter Tryz.func99,Tryz.ntmps99;go_wp2_with fail;go_ret
  exact⟨rfl,rfl⟩
 have t1:(k == 1)=false:=by simpa using h1
 rw[if_neg h1];clear h1;by_cases h3:k=3
 ·subst h3;go_enter Tryz.func99,Tryz.ntmps99;go_wp2_with fail;go_ret
  exact⟨rfl,rfl⟩
 have t3:(k == 3)=false:=by simpa using h3
 rw[if_neg h3];clear h3;by_cases h2:k=2
 ·subst h2
  cases ha with
  | false=>
   go_enter Tryz.func99,Tryz.ntmps99;go_wp2_with fail;go_ret
   exact⟨rfl,rfl⟩
  | true=>
   rw[if_neg (by decide),if_pos (.inl rfl)];go_enter Tryz.func99,Tryz.ntmps99;go_wp2_with fail;refine KI.o.mono ?_;rintro e w2 ⟨rfl,rfl⟩;go_wp2_with fail;go_ret
   exact⟨rfl,rfl⟩
 have t2:(k == 2)=false:=by simpa using h2
 rw[if_neg (fun h=>h2 h.1)];clear h2
 cases ha with
 | true=>
  rw[if_pos (by simp)];go_enter Tryz.func99,Tryz.ntmps99;go_wp2_with fail;refine KI.o.mono ?_;rintro e w2 ⟨rfl,rfl⟩;go_wp2_with fail;go_ret
  exact⟨rfl,rfl⟩
 | false=>
 cases hu with
 | true=>
  rw[if_pos (by simp)];go_enter Tryz.func99,Tryz.ntmps99;go_wp2_with fail;refine KI.o.mono ?_;rintro e w2 ⟨rfl,rfl⟩;go_wp2_with fail;go_ret
  exact⟨rfl,rfl⟩
 | false=>
 rw[if_neg (by decide)];by_cases h9:k=9
 ·subst h9;go_enter Tryz.func99,Tryz.ntmps99;go_wp2_with fail;go_ret
  exact⟨rfl,rfl⟩
 have t9:(k == 9)=false:=by simpa using h9
 rw[if_neg h9];clear h9;by_cases hA:k=10
 ·subst hA;go_enter Tryz.func99,Tryz.ntmps99;go_wp2_with fail;go_ret
  exact⟨rfl,rfl⟩
 have t10:(k == 10)=false:=by simpa using hA
 rw[if_neg hA];clear hA;go_enter Tryz.func99,Tryz.ntmps99;go_wp2_with fail;go_ret
 exact⟨rfl,rfl⟩
theorem Eg {P:Program}{t:TypeId}{z:Option Value}{s b:Nat}(h:(P.info? t).map (fun i=>(i.zero,i.size,i.bytes))=some (z,s,b)):∃i,P.info? t=some i/\i.zero=z/\i.size=s/\i.bytes=b:=by
 cases hi:P.info? t with
 | none=>rw[hi]at h;cases h
 | some i=>rw[hi]at h;simp at h;exact⟨i,rfl,h.1,h.2.1,h.2.2⟩
theorem Ht:(Tryz.prog.info? 26).map (fun i=>(i.zero,i.size,i.bytes))=some (some (.agg #[.int .i64 0,.string ⟨#[]⟩,.int .i64 0,.slice none 0 0,.slice none 0 0,.slice none 0 0]),6,104):=by kernel_rfl
theorem Gx {w:World}{base:Nat}{e:TypeId}{size n:Nat}{v:Value}{xs:List Value}(h:w.ownsRow base e size v n xs):∃A c,v=.slice A n c/\(A=none->n=0/\c=0):=by
 rcases h.2 with ⟨hv,hn⟩|⟨g,cap,cur,hv,_⟩
 ·exact⟨none,0,by rw[hv,hn],fun _=>⟨hn,rfl⟩⟩
 ·exact⟨_,cap,hv,fun h=>by cases h⟩
theorem Jef {w:World}{base:Nat}{e:TypeId}{size n:Nat}{v:Value}{xs:List Value}(h:w.ownsRow base e size v n xs) {b:Nat}(hb:v.ownBlock=some b):∃c,w.heap[b]?=some (.cells c e (0,0)):=by
 rcases h.2 with ⟨rfl,_⟩|⟨g,cap,cur,rfl,_,hg,_⟩
 ·cases hb
 ·injection hb with hb
  exact⟨cur,by rw[<-hb];exact hg⟩
theorem Dz (w:World) (cs:List Value) (T:TypeId):∀j u,cs[j]?=some u->(w.alloc (.cells cs.toArray T)).cell? ((⟨w.heap.size,0,none⟩:Addr).add j)=some u:=by
 intro j u hj;have e:((⟨w.heap.size,0,none⟩:Addr).add j)=⟨w.heap.size,j,none⟩:=by
  unfold Addr.add;by_cases h2:j=0 <;> simp[h2]
 rw[e,Ch (heap_alloc_new w _)];simpa using hj
structure Cs (K:Nat->Prop) (w0 w:World) (v:Value) (ts:List Ty):Prop where
 ex:∃vs,w.ownsRow w0.heap.size 26 6 v ts.length vs/\∀i (h:i<ts.length),∃cs,Aw K w0 ts[i] cs/\∀j u,cs[j]?=some u->vs[i*6+j]?=some u
theorem Aw.six {K:Nat->Prop}{w:World}{t:Ty}{cs:List Value}(h:Aw K w t cs):cs.length=6:=by
 obtain⟨k,s,n,ps,fs,vs⟩:=t;obtain⟨A,c,A',c',A'',c'',rfl,_⟩:=h.inv;rfl
theorem Cs.snoc {K:Nat->Prop}{w0 w':World}{v':Value}{ts:List Ty}{t:Ty}{vs cs:List Value}(hl:vs.length=ts.length*6) (h:∀i (h:i<ts.length),∃cs,Aw K w0 ts[i] cs/\∀j u,cs[j]?=some u->vs[i*6+j]?=some u)
  (ht:Aw K w0 t cs) (ho:w'.ownsRow w0.heap.size 26 6 v' (ts.length+1) (vs++cs)):Cs K w0 w' v' (ts++[t]):=by
 refine⟨⟨vs++cs,by rw[List.length_append];exact ho,fun i hi=>?_⟩⟩;rw[List.length_append,List.length_singleton]at hi;by_cases hA:i<ts.length
 ·obtain⟨cs',h1,h2⟩:=h i hA;refine⟨cs',by rw[List.getElem_append_left hA];exact h1,fun j u hj=>?_⟩;have h3:=h2 j u hj;rw[List.getElem?_append_left (List.getElem?_eq_some_iff.1 h3).1];exact h3
 ·obtain rfl:i=ts.length:=by omega
  refine⟨cs,by rw[List.getElem_append_right (by omega)];simpa using ht,fun j u hj=>?_⟩;rw[List.getElem?_append_right (by omega),show ts.length*6+j - vs.length=j from by omega];exact hj
theorem Cs.keep {K:Nat->Prop}{w0 w w':World}{v:Value}{ts:List Ty}(h:Cs K w0 w v ts) (hk:∀b,v.ownBlock=some b->w'.heap[b]?=w.heap[b]?):Cs K w0 w' v ts:=by
 obtain⟨vs,h1,h2⟩:=h;refine⟨vs,⟨h1.1,?_⟩,h2⟩;rcases h1.2 with h3|⟨g,cap,cur,hv,hg,hh,r⟩
 ·exact .inl h3
 ·exact .inr ⟨g,cap,cur,hv,hg,by rw[hk g (by rw[hv];rfl)];exact hh,r⟩
def Id (h:El) (l:List Ty):El:=l.foldl (fun h t=>Jf h t.k) h
theorem M5 (h:El) (l l':List Ty):Id h (l++l')=Id (Id h l) l':=by unfold Id;rw[List.foldl_append]
theorem Jb {l:List Ty}{i:Nat}(h:i<l.length):Bz (l.take (i+1))=Bz (l.take i)++Ds l[i]:=by
 rw[List.take_succ_eq_append_getElem h,Oc];simp[Bz]
theorem K1 (l:List Ty) (i:Nat):Bz l=Bz (l.take i)++Bz (l.drop i):=by
 rw[<-Oc,List.take_append_drop]
theorem Z6 {K:Nat->Prop}{w0 w:World}{v:Value}{ts:List Ty}{g:Nat}{h:El}(hk:KB w g h) (ho:Cs K w0 w v ts):v.ownBlock≠some g:=by
 intro e;obtain⟨vs,h1,_⟩:=ho;obtain⟨c,hc⟩:=Jef h1 e;rw[hk]at hc;injection hc with hc
 injection hc with _ hc
 exact absurd hc (by decide)
def T8 (l:List Ty):Prop:=∀(K:Nat->Prop) (w0 w:World) (A:Option Addr) (c:Nat) (v:Value) (os:List Ty) (g:Nat) (h:El),Bk K w0 l A c->Below w0.heap.size w0 w->w0.heap.size<=g->KB w g h->Cs K w0 w v os->os.length+(Bz l).length<=1099511627776 ->
 Calls Tryz.prog 98 #[v,.slice A l.length c,.pointer (some ⟨g,0,none⟩)] w fun e w'=>∃v',e=.returned v'/\Cs K w0 w' v' (os++Bz l)/\KB w' g (Id h (Bz l))/\Below w0.heap.size w0 w'
theorem θ {K:Nat->Prop}{w0 w2 w5:World}{v v5:Value}{os:List Ty}{t:Ty}{g:Nat}{h:El}{cs vs:List Value}(hK:KB w2 g h) (hb:Below w0.heap.size w0 w2) (ho:w2.ownsRow w0.heap.size 26 6 v os.length vs) (hr:∀i (h:i<os.length),∃cs,Aw K w0 os[i] cs/\∀j u,cs[j]?=some u->vs[i*6+j]?=some u)
  (ht:Aw K w0 t cs) (hA:w5.ownsRow w0.heap.size 26 6 v5 (os.length+1) (vs++cs)) (hg:(w2.alloc (.cells cs.toArray 26)).grownBy w5 v.ownBlock) :
  Cs K w0 w5 v5 (os++[t])/\KB w5 g h/\Below w0.heap.size w0 w5:=by
 have hB:g<w2.heap.size:=(Array.getElem?_eq_some_iff.1 hK).1;have hD:=Z6 hK ⟨vs,ho,hr⟩;have hC:w2.heap.size<=(w2.alloc (.cells cs.toArray 26)).heap.size:=by simp
 refine⟨Cs.snoc (ho.1) hr ht hA,?_,(hb.alloc hb.size _).grown hg (Nat.le_trans hb.size hC) fun k hk=>(ho.lt k hk).1⟩;unfold KB;rw[hg.block g (by omega) (fun e=>hD e.symm),Below.heap_alloc _ _ _ hB];exact hK
theorem Oe (l:List Ty) (hp:∀p∈l,T8 p.ps):T8 l:=by
 intro K w0 w A c v os g h hL hb hg hK hO kJ;have kY:=hL.short;have HL:=Hd hL;have HP:=Hd hp;have HG:=Hd hg;have kN:=Hd kJ;have hU:Z9 (Cs K w0 w v os/\KB w g h/\Below w0.heap.size w0 w):=Hd ⟨hO,hK,hb⟩;obtain⟨i0,kR,kT,kU,kV⟩:=Eg Ht;obtain⟨kZ,hH,-⟩:=hO;obtain⟨A0,c0,rfl,-⟩:=Gx hH;obtain⟨n0,kE⟩:∃n0,n0=os.length:=⟨_,rfl⟩;rw[<-kE]at hU hH ⊢;have kX:=Hd kE;clear hL hp hg kJ hb hK hH kE;go_enter Tryz.func98,Tryz.ntmps98;go_wp2_with fail
 go_loopw [0,10] (fun ov v wr=>∃(i:Nat) (acc:List Ty),i<=l.length/\v=.int .i64 i/\acc=os++Bz (l.take i)/\Cs K w0 wr ov acc/\KB wr g (Id h (Bz (l.take i)))/\Below w0.heap.size w0 wr) (fun _ v _=>l.length - (intOf v).toNat)
 case atStart=>exact⟨0,os,by omega,rfl,by simp[Bz],hU.o.1,by simpa [Bz,Id] using hU.o.2.1,hU.o.2.2⟩
 case round=>
  obtain⟨i,acc,hi,rfl,hQ,ho,hk,hb⟩:=hrel;have hC:=Hd hQ;clear hQ;have HR:=Hd (And.intro ho (And.intro hk hb));obtain⟨vs,hT,hY⟩:=ho;obtain⟨A1,c1,rfl,-⟩:=Gx hT;by_cases hW:i<l.length
  ·have t1:decide ((i:Int)<(l.length:Int))=true:=by simp;omega
   have hZ:wrap64 ((i:Int)+1)=((i+1:Nat):Int):=Ba (by omega);obtain⟨b,o,hA,_,kP⟩:=HL.o.at (by omega);have kM:=kP i hW;have hX:=HP.o _ (List.getElem_mem hW);have hS:=Jb hW;have kG:=K1 l (i+1);subst hA;generalize l[i]=t at kM hX hS;obtain⟨k,s,n,ps,fs,ws⟩:=t;obtain⟨cs,hJ,hD⟩:=kM;obtain⟨Ap,cp,Af,cf,Av,cv,rfl,-,kC,-,-⟩:=hD.inv;have HREP:=Hd hD;have x0:wr.cell? ⟨b,o+i*6,none⟩=some (.int .i64 k):=Aa hb (hJ 0 _ rfl);have x3:=Aa hb (hJ 3 _ rfl);have hI:=Hd hJ;have hE:=Hd hW;have hV:=Hd hS;have kA:=Hd (And.intro hT hY);have hM:Z9 (acc.length+(Ds (.mk k s n ps fs ws)).length<=1099511627776):=Hd (by
    have h1:=kN.o;rw[kG,hS]at h1;rw[hC.o];simp only[List.length_append]at h1 ⊢;omega)
   have kD:b<w0.heap.size:=World.block_lt_of_cell? _ _ (hJ 0 _ rfl);have kW:=Hd kD;by_cases hP:k=15
   ·subst hP;have KF:=Hd (hX K w0 wr Ap cp _ _ g _ kC hb HG.o hk HR.o.1 (by have:=hM.o;rw[C6,if_pos rfl]at this;exact this));simp only[Ty.ps]at KF;clear hX hS kG hJ hD kC hT hY hk hb hi kD;go_wp2_with fail;refine KF.o.mono ?_;rintro e w2 ⟨v2,rfl,kL,hR,hB⟩;have hG:=Hd (And.intro kL (And.intro hR hB));clear kL hR hB KF;go_wp2_with fail;refine⟨⟨i+1,_,hE.o,by first|rfl|rw[hZ],?p1,hG.o.1,?p2,hG.o.2.2⟩,?p3⟩
    case p1=>rw[hV.o,hC.o,C6,if_pos rfl,List.append_assoc]
    case p2=>rw[hV.o,M5,C6,if_pos rfl];exact hG.o.2.1
    case p3=>first|exact Bg hE.o|exact Ev hE.o|(rw[hZ];exact Bg hE.o)
   ·have t15:(k == 15)=false:=(by simpa using hP);have KS:=Hd (Va hk x0);clear hX hS kG hJ hD kC hT hY hi kD hk;go_wp2_with fail;refine KS.o.mono ?_;rintro e w2 ⟨rfl,hR,kF⟩;have hB:=kF.below hb HG.o;have hG:=Hd (And.intro hR hB);have hN:Z9 (w2.ownsRow w0.heap.size 26 6 (.slice A1 acc.length c1) acc.length vs):=Hd (by
     have kS:=Z6 HR.o.2.1 HR.o.1;refine⟨kA.o.1.1,?_⟩;rcases kA.o.1.2 with h3|⟨g1,cap,cur,hv,kQ,hh,r⟩
     ·exact .inl h3
     ·exact .inr ⟨g1,cap,cur,hv,kQ,by rw[kF.block (fun e=>kS (by rw[hv,<-e];rfl))];exact hh,r⟩)
    have y0:w2.cell? ⟨b,o+i*6,none⟩=some (.int .i64 k):=Aa hB (hI.o 0 _ rfl);have y1:=Aa hB (hI.o 1 _ rfl);have y2:=Aa hB (hI.o 2 _ rfl);have y3:=Aa hB (hI.o 3 _ rfl);have y4:=Aa hB (hI.o 4 _ rfl);have y5:=Aa hB (hI.o 5 _ rfl);have kO:=Hd (Dz w2 [.int .i64 k,.string s,.int .i64 n,.slice Ap ps.length cp,.slice Af fs.length cf,.slice Av ws.length cv] 26);have kH:Z9 (acc.length+1<=1099511627776):=Hd (by have:=hM.o;rw[C6,if_neg hP]at this;simpa using this);clear hb hR kF hB KS x0 x3;go_wp2_with (at_builtin;refine wpList_plain rfl fun K hK=>?_;go_loud (refine Cb _ _ 22 rfl w0.heap.size 26 i0 (.agg #[.int .i64 0,.string ⟨#[]⟩,.int .i64 0,.slice none 0 0,.slice none 0 0,.slice none 0 0]) 6 104 Tryz.underlying22 kR kT kU kV rfl (by decide) _ _ _ rfl (hN.o.alloc _) ⟨w2.heap.size,0,none⟩ 1 1 [.int .i64 k,.string s,.int .i64 n,.slice Ap ps.length cp,.slice Af fs.length cf,.slice Av ws.length cv] rfl rfl ?a0 ?a1 ?a2 ?a3 ?a4 ?_))
    case a0=>exact kO.o
    case a1=>
     intro u hu;simp only[List.mem_cons,List.not_mem_nil,or_false]at hu;rcases hu with rfl|rfl|rfl|rfl|rfl|rfl <;> rfl
    case a2=>have:=kH.o;unfold maxLen;omega
    case a3=>have:=kH.o;omega
    case a4=>have:=hG.o.2.size;simp only[World.size_alloc];omega
    intro v5 w5 hF kK _ _;refine hK _ _ ?_;clear hK K;have kI:=θ hG.o.1 hG.o.2 hN.o kA.o.2 HREP.o hF kK;have kB:=Hd kI;clear hF kK kI y0 y1 y2 y3 y4 y5;go_wp2_with fail;refine⟨⟨i+1,_,hE.o,by first|rfl|rw[hZ],?p1,kB.o.1,?p2,kB.o.2.2⟩,?p3⟩
    case p1=>rw[hV.o,hC.o,C6,if_neg hP,List.append_assoc]
    case p2=>rw[hV.o,M5,C6,if_neg hP];exact kB.o.2.1
    case p3=>first|exact Bg hE.o|exact Ev hE.o|(rw[hZ];exact Bg hE.o)
  ·have t1:decide ((i:Int)<(l.length:Int))=false:=by simp;omega
   have HE:Z9 (l.take i=l):=Hd (List.take_of_length_le (by omega));clear hi hT hY hk hb;go_wp2_with fail;go_ret
   have h1:=HR.o;have h2:=hC.o;rw[HE.o]at h1 h2;rw[<-h2];exact⟨.slice A1 acc.length c1,rfl,h1.1,h1.2.1,h1.2.2⟩
theorem Yl (l:List Ty):T8 l:=Oe l fun p _=>Ty.ind (C:=fun t=>T8 t.ps) (fun _ _ _ ps _ _ hp _ _=>Oe ps hp) p
structure Fc (K:Nat->Prop) (w0 w:World) (g c:Nat) (ts:List Ty):Prop where
 le:ts.length<=c
 mx:c<=maxLen
 blk:∃cur,w.heap[g]?=some (.cells cur 26 (0,0))/\cur.size=c*6
 reps:∀(i:Nat) (t:Ty),ts[i]?=some t->∃cs,Aw K w0 t cs/\∀(j:Nat) (u:Value),cs[j]?=some u->w.cell? ⟨g,i*6+j,none⟩=some u
theorem Fc.lt {K:Nat->Prop}{w0 w:World}{g c:Nat}{ts:List Ty}(h:Fc K w0 w g c ts):g<w.heap.size:=by
 obtain⟨cur,h1,_⟩:=h.blk;exact (Array.getElem?_eq_some_iff.1 h1).1
theorem Fc.there {K:Nat->Prop}{w0 w:World}{g c:Nat}{ts:List Ty}(h:Fc K w0 w g c ts) {j:Nat}(hj:j<c*6):(w.cell? ⟨g,j,none⟩).isSome=true/\w.frozen? ⟨g,j,none⟩=false:=by
 obtain⟨cur,h1,h2⟩:=h.blk;refine⟨?_,Lib.frozen_of_heap h1 j⟩;rw[cell_of_row _ _ _ _ _ _ h1,Array.getElem?_eq_getElem (by omega)];rfl
theorem Fc.keep {K:Nat->Prop}{w0 w w':World}{g c:Nat}{ts:List Ty}(h:Fc K w0 w g c ts) (hk:w'.heap[g]?=w.heap[g]?):Fc K w0 w' g c ts:=
 ⟨h.le,h.mx,by rw[hk];exact h.blk,fun i t hi=>by
  obtain⟨cs,h1,h2⟩:=h.reps i t hi;exact⟨cs,h1,fun j u hj=>(World.cell?_of_block (a:=⟨g,i*6+j,none⟩) hk).trans (h2 j u hj)⟩⟩
theorem Fc.later {K:Nat->Prop}{w0 w w':World}{g c:Nat}{ts:List Ty}(h:Fc K w0 w g c ts) (hb:Below w.heap.size w w'):Fc K w0 w' g c ts:=h.keep (hb.block g h.lt)
theorem Fc.of_out {K:Nat->Prop}{w0 w:World}{v:Value}{ts:List Ty}(h:Cs K w0 w v ts):(v=.slice none 0 0/\ts=[])\/∃g c,v=.slice (some ⟨g,0,none⟩) ts.length c/\w0.heap.size<=g/\Fc K w0 w g c ts:=by
 obtain⟨vs,⟨h1,h2⟩,h3⟩:=h;rcases h2 with ⟨hv,hn⟩|⟨g,cap,cur,hv,hg,hh,hc,hm,hs,ht⟩
 ·exact .inl ⟨hv,List.eq_nil_of_length_eq_zero hn⟩
 ·refine .inr ⟨g,cap,hv,hg,hc,hm,⟨cur,hh,hs⟩,fun i t hi=>?_⟩;obtain⟨hA,rfl⟩:=List.getElem?_eq_some_iff.1 hi;obtain⟨cs,h4,h5⟩:=h3 i hA;refine⟨cs,h4,fun j u hj=>?_⟩;have h6:=h5 j u hj;rw[cell_of_row _ _ _ _ _ _ hh];rw[<-ht,List.getElem?_take]at h6
  split at h6
  ·simpa using h6
  ·cases h6
theorem Pz (g:Nat) {T:TypeId}:∀(vs:List Value) (o:Nat) (w:World),(∃cur n,w.heap[g]?=some (.cells cur T (0,0))/\cur.size=n)->∀n,(∃cur,w.heap[g]?=some (.cells cur T (0,0))/\cur.size=n)->∃cur,(w.setCells g o vs).heap[g]?=some (.cells cur T (0,0))/\cur.size=n
 | [],_,_,_,_,h=>h
 | v :: vs,o,w,hx,n,⟨cur,h1,h2⟩=>by
  have h3:=Go.heap_setCell_same w g o _ _ v h1;exact Pz g vs (o+1) _ ⟨_,_,h3,rfl⟩ n ⟨_,h3,by rw[Array.size_setIfInBounds];exact h2⟩
theorem Fc.put {K:Nat->Prop}{w0 w:World}{g c:Nat}{F ts:List Ty}{t:Ty}{cs:List Value}(h:Fc K w0 w g c (F++ts.drop F.length)) (hF:F.length<ts.length) (ht:Aw K w0 t cs) :
  Fc K w0 (w.setCells g (F.length*6) cs) g c ((F++[t])++ts.drop (F++[t]).length):=by
 have h6:=ht.six;have hI:=h.le;simp only[List.length_append,List.length_drop]at hI;have hH:∀j,j<cs.length->(w.cell? ⟨g,F.length*6+j,none⟩).isSome=true:=fun j hj=>(h.there (by omega)).1;obtain⟨cur,hC,hE⟩:=h.blk;refine⟨by simp;omega,h.mx,Pz g cs _ w ⟨_,_,hC,rfl⟩ _ ⟨_,hC,hE⟩,fun i x hi=>?_⟩;have hA:i≠F.length->(F++ts.drop F.length)[i]?=some x->∃cs',Aw K w0 x cs'/\∀(j:Nat) (u:Value),cs'[j]?=some u->(w.setCells g (F.length*6) cs).cell? ⟨g,i*6+j,none⟩=some u:=by
  intro hK hx;obtain⟨cs',h1,h2⟩:=h.reps i x hx;refine⟨cs',h1,fun j u hj=>?_⟩;have hB:=(List.getElem?_eq_some_iff.1 hj).1;rw[h1.six]at hB;rw[World.cell?_setCells_out g cs _ w ⟨g,i*6+j,none⟩ (fun _ _=>by show i*6+j<_\/_<=i*6+j;omega)];exact h2 j u hj
 rw[List.length_append,List.length_singleton]at hi;rcases Nat.lt_trichotomy i F.length with hD|hG|hJ
 ·refine hA (by omega) ?_;rw[List.append_assoc,List.getElem?_append_left hD]at hi;rw[List.getElem?_append_left hD];exact hi
 ·subst hG;rw[List.append_assoc,List.getElem?_append_right (Nat.le_refl _),Nat.sub_self]at hi;injection hi with hi
  subst hi;refine⟨cs,ht,fun j u hj=>?_⟩;have hB:=(List.getElem?_eq_some_iff.1 hj);rw[World.cell?_setCells_in g cs _ w hH j hB.1,hB.2]
 ·refine hA (by omega) ?_;rw[List.getElem?_append_right (by simp;omega),List.getElem?_drop]at hi;rw[List.getElem?_append_right (by omega),List.getElem?_drop];rw[<-hi]
  congr 1
  simp;omega
def Cf:List Ty->List Ty
 | []=>[]
 | a :: l=>match l with
  | []=>[a]
  | b :: _=>if B5 a b=0 then Cf l else a :: Cf l
def Wk (l:List Ty):Prop:=l.Pairwise fun a b=>B5 a b<=0
theorem Ka (x:Ty):∀l,x∈Cf l↔x∈l
 | []=>Iff.rfl
 | [a]=>Iff.rfl
 | a :: b :: l=>by
  rw[Cf];have ih:=Ka x (b :: l)
  split
  ·rename_i h;rw[ih,C5.1 h];simp
  ·rw[List.mem_cons,ih];simp only[List.mem_cons]
theorem Nv:∀ {l},Wk l->Lm (Cf l)
 | [],_=>List.Pairwise.nil
 | [a],_=>by simp[Cf,Lm]
 | a :: b :: l,h=>by
  obtain⟨h1,h2⟩:=List.pairwise_cons.1 h;have ih:=Nv h2;rw[Cf]
  split
  ·exact ih
  ·rename_i h3;have hA:B5 a b = -1:=by
    have:=h1 b (List.mem_cons_self ..);rcases Gb a b with e|e|e
    ·exact e
    ·exact absurd e h3
    ·omega
   refine List.pairwise_cons.2 ⟨fun x hx=>?_,ih⟩;rcases List.mem_cons.1 ((Ka x (b :: l)).1 hx) with rfl|hB
   ·exact hA
   ·have hC:=(List.pairwise_cons.1 h2).1 x hB;rcases Gb b x with e|e|e
    ·exact Fx hA e
    ·rw[<-C5.1 e];exact hA
    ·omega
theorem Tv {l s:List Ty}(hs:Wk s) (hm:∀x,x∈s↔x∈l):Eh l=Cf s:=Hh (Nv hs) fun x=>(Ka x s).trans (hm x)
