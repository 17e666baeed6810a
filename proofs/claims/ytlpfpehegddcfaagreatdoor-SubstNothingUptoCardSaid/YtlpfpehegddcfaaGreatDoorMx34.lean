import Derived.Test.YtlpfpehegddcfaaGreatDoorMx30
import Derived.Test.YtlpfpehegddcfaaGreatDoorMx32
import Derived.Test.YtlpfpehegddcfaaGreatDoorMx33
namespace Go.Proofs.YtlpfpehegddcfaaGreatDoor
set_option maxRecDepth 100000
set_option maxHeartbeats 64000000
open Go.RowKit
theorem Gr.but {K O:Nat->Prop}{w w':World}{g q:Nat}{S:List Ty}(h:Gr K w g q S) (hb:Ad O w w') (hk:∀b,K b->¬ O b) (hO:∀x,O x->x<g):Gr K w' g q S:=
 have hg:¬ O g:=fun h=>Nat.lt_irrefl _ (hO g h)
 ⟨Nat.lt_of_lt_of_le h.lt hb.size,fun y hy=>by obtain⟨v,hv⟩:=h.cell y hy;exact⟨v,hb.cell hg hv⟩,fun y=>(World.frozen?_of_block (w:=w) (a:=⟨g,y,none⟩) (hb.block g h.lt hg)).trans (h.free y),
  fun i hi=>by obtain⟨cs,h1,h2⟩:=h.reps i hi;exact⟨cs,h1.but hb fun x hx=>⟨fun ho=>hx.elim (fun hx=>hk x hx ho) fun hx=>by have:=hO x ho;omega,hx⟩,fun j u hj=>hb.cell hg (h2 j u hj)⟩⟩
theorem O1 {O:Nat->Prop}{a w:World}{g:Nat}(h:Ad O a w) (hg:O g\/a.heap.size<=g) (y:Nat) (v0 v1 v2 v3 v4 v5:Value):Ad O a (Ey w g y v0 v1 v2 v3 v4 v5):=
 (((((h.set (p:=⟨g,y,none⟩) hg v0).set (p:=⟨g,y+1,none⟩) hg v1).set (p:=⟨g,y+2,none⟩) hg v2).set (p:=⟨g,y+3,none⟩) hg v3).set (p:=⟨g,y+4,none⟩) hg v4).set (p:=⟨g,y+5,none⟩) hg v5
theorem all_nil {wk:Nat}{w:World}{A:Option Addr}{c:Nat}{m:Option Nat} :
  Calls Tryz.prog 81 #[.pointer (some ⟨wk,0,none⟩),.slice A 0 c,.map m] w fun e w'=>e=.returned (.slice none 0 0)/\w'=w:=by
 go_enter Tryz.func81,Tryz.ntmps81;go_wp2_with fail;go_ret
 exact⟨rfl,rfl⟩
theorem Qa {Cc:Prop}{n0:Z8}{u:Ty}{K Z:Nat->Prop}{wk sb nd:Nat}{w:World}{a:Nat}{m:Option Nat}{act:Bool}{l:List Ty}{A:Option Addr}{c:Nat}(hL:Bk K w l A c) (aI:0<l.length) (hK:∀x,K x->x<w.heap.size/\x≠sb/\x≠wk) (hE:Cp wk sb n0 w m act) (hS:Ce K Z w sb u nd) (hZ:Z sb) (kH:Z wk) (hY:∀x,Z x->x<w.heap.size) (kC:w.heap[wk]?=some (.cells #[.int .i64 (a:Int)] 85 (0,0))) (kS:wk≠sb) (hO:a+Au l<=4096) (kL:∀p∈l,Aj p=true/\Dk p=true) (kP:∀p∈l,act=true->(nd=1/\Am u=1/\Cc)\/Bp n0 p=false) (ih:∀p∈l,Jg Cc n0 u p) :
  Calls Tryz.prog 81 #[.pointer (some ⟨wk,0,none⟩),.slice A l.length c,.map m] w (fun e w'=>∃(A':Option Addr) (c':Nat),e=.returned (.slice A' l.length c')/\Bk (fun x=>K x\/w.heap.size<=x) w' (l.map fun p=>if act=true then Bh n0 u p else p) A' c'/\w'.heap[wk]?=some (.cells #[.int .i64 ((a+Au l:Nat):Int)] 85 (0,0))/\Ce K Z w' sb u nd/\Ad (fun x=>x=sb\/x=wk) w w'):=by
 obtain⟨f,hf⟩:∃f:Ty->Ty,f=fun p=>if act=true then Bh n0 u p else p:=⟨_,rfl⟩
 rw[<-hf];have kM:∀p,f p=if act=true then Bh n0 u p else p:=fun p=>by rw[hf]
 have aK:l.length<=1099511627776:=by have:=Ti l;omega
 obtain⟨g,hg⟩:∃g,g=w.heap.size:=⟨_,rfl⟩;obtain⟨w2,hR⟩:∃x,x=w.alloc (.cells (madeCells Nk (l.length*6)) 26):=⟨_,rfl⟩;have hN:Below w.heap.size w w2:=by rw[hR];exact (Below.refl _ _).alloc (Nat.le_refl _) _
 have kK:Gr K w2 g l.length []:=by rw[hR,hg];exact Gr.start K w l.length
 have aM:=Tj l.length aK;have kO:wk<w.heap.size:=(Array.getElem?_eq_some_iff.1 kC).1;have aO:sb<w.heap.size:=hY sb hZ;have HE:Z9 (∀wx,Ad (fun x=>x=sb\/x=wk) w wx->Cp wk sb n0 wx m act):=Hd fun wx hx=>hE.but hx fun x h=>h.elim (fun e=>.inr (.inl e)) .inl;have HL:Z9 (∀wx,Ad (fun x=>x=sb\/x=wk) w wx->Bk K wx l A c):=Hd fun wx hx=>hL.but hx fun x hx=>⟨fun h=>h.elim (hK x hx).2.1 (hK x hx).2.2,hx⟩;have aD:Z9 (Ce K (fun x=>Z x\/x=g) w2 sb u nd):=Hd ((hS.more fun x h=>h.elim .inl fun e=>.inr (by omega)).but (Ad.of_below (O:=fun _=>False) hN) (fun h=>h) (fun x h=>h.elim) fun _ _ h=>h);have kW:=Hd (Bj hN kO kC);have HK:=Hd hK;have HZ:Z9 (Z sb/\Z wk/\∀x,Z x->x<g):=Hd ⟨hZ,kH,fun x h=>by rw[hg];exact hY x h⟩;have aG:=Hd kS;have kX:=Hd hO;have kZ:=Hd kL;have hU:=Hd kP;have aB:=Hd ih;have aA:=Hd kM;have HG:=Hd hg;have aF:=Hd hR;have kU:=Hd hN;have kY:=Hd kK;have hM:Z9 (wk<g/\sb<g):=Hd (by omega);have aP:¬ l.length=0:=by omega
 have aL:¬ (l.length:Int)=0:=by omega
 clear hL aI hK hE hS hZ kH hY kC kS hO kL kP ih hf kM hg hR hN kK kO aO;go_enter Tryz.func81,Tryz.ntmps81;go_upto_region 4 with fail
 rw[<-HG.o,<-aF.o];clear aM;go_wp2_with fail
 go_loopw [17] (fun v wr=>∃(i:Nat),i<=l.length/\v=.int .i64 i/\Gr K wr g l.length ((l.take i).map f)/\wr.heap[wk]?=some (.cells #[.int .i64 ((a+Au (l.take i):Nat):Int)] 85 (0,0))/\Ce K (fun x=>Z x\/x=g) wr sb u nd/\Ad (fun x=>x=sb\/x=wk) w wr) (fun v _=>l.length - (intOf v).toNat)
 case atStart=>exact⟨0,by omega,rfl,by simpa using kY.o,by simpa [Au] using kW.o,aD.o,Ad.of_below kU.o⟩
 case round=>
  obtain⟨i,hi,rfl,hI,hJ,hQ,hb⟩:=hrel;by_cases hF:i<l.length
  ·have t1:decide ((i:Int)<(l.length:Int))=true:=by simp;omega
   have kT:wrap64 ((i:Int)+1)=((i+1:Nat):Int):=Ba (by omega);have HM:=Hd (Bg hF);have aC:Z9 (i+1<=l.length):=Hd hF;have hB:Z9 ((l.take (i+1)).map f=(l.take i).map f++[f l[i]]/\((l.take i).map f).length=i):=Hd ⟨by rw[List.take_succ_eq_append_getElem hF,List.map_append];rfl,by simp;omega⟩;obtain⟨b,o,hA,hX,kI⟩:=(HL.o wr hb).at (by omega);subst hA;have kN:=hI.lt;have aN:=Vu hF;have aJ:=I6 l (i+1);have hO:=kX.o;have ko:=aB.o l[i] (List.getElem_mem hF) K (fun x=>Z x\/x=g) wk sb nd wr b (o+i*6) m act (a+Au (l.take i)) (kI i hF) ⟨(HK.o b hX).2.1,(HK.o b hX).2.2⟩ (fun x hx=>⟨Nat.lt_of_lt_of_le (HK.o x hx).1 hb.size,(HK.o x hx).2⟩) (HE.o wr hb) hQ (.inl HZ.o.1) (.inl HZ.o.2.1) (fun x h=>h.elim (fun h=>Nat.lt_trans (HZ.o.2.2 x h) kN) fun e=>by omega) hJ aG.o (by omega) (kZ.o _ (List.getElem_mem hF)) (hU.o _ (List.getElem_mem hF));unfold Ci at ko;rw[<-aA.o]at ko;have KO:=Hd ko;have HCN:Z9 (a+Au (l.take i)+Am l[i]=a+Au (l.take (i+1))):=Hd (by omega);have kG:=Hd hI;have HB:=Hd hb;generalize f l[i]=fi at hB KO;generalize l[i]=p at HCN KO;have i1:(0:Int)<=(i:Int):=by omega
   have i2:(i:Int)<(l.length:Int):=by omega
   obtain⟨k4,s4,n4,kD,hW,kE⟩:=fi;clear kI hi hI hJ hQ hb kN aN aJ hO ko hX;go_wp2_with fail;refine KO.o.mono ?_;rintro e w5 ⟨rs,rfl,kQ,kJ,kR,kA⟩;have aH:=kG.o.lt;have hC:=kG.o.but kA (fun b hb h=>h.elim (HK.o b hb).2.1 (HK.o b hb).2.2) (fun x h=>h.elim (fun e=>by have:=hM.o.2;omega) fun e=>by have:=hM.o.1;omega);have hP:Aw (fun b=>K b\/g<b) w5 (.mk k4 s4 n4 kD hW kE) rs:=kQ.weak fun b h=>h.imp id fun h=>by omega
   obtain⟨Aq,cq,Ag,cg,Ah,ch,rfl,-⟩:=hP.inv;simp only[Az]at hP ⊢;have hH:=hC.put (fun b h=>by have:=(HK.o b h).1;have:=HG.o;omega) (by rw[hB.o.2];exact hF) hP;rw[hB.o.2,<-hB.o.1]at hH;have hV:=Hd hH;have kB:Ad (fun x=>x=g) w5 (Ey w5 g (i*6) (.int .i64 k4) (.string s4) (.int .i64 n4) (.slice Aq kD.length cq) (.slice Ag hW.length cg) (.slice Ah kE.length ch)):=O1 (O:=fun x=>x=g) (Ad.refl _ _) (.inl rfl) _ _ _ _ _ _ _;have aE:=Hd (kR.but kB (fun e=>by have h1:=hM.o.2;have e:sb=g:=e;omega) (fun x h=>.inl (.inr h)) fun x hx e=>by have h1:=(HK.o x hx).1;have h2:=HG.o;have e:x=g:=e;omega);have kF:=Hd (kB.up (fun e=>by have h1:=hM.o.1;have e:wk=g:=e;omega) kJ);have kV:=Hd (O1 (g:=g) ((HB.o.trans kA fun x h=>.inl h):Ad (fun x=>x=sb\/x=wk) w w5) (.inr (Nat.le_of_eq HG.o.symm)) (i*6) (.int .i64 k4) (.string s4) (.int .i64 n4) (.slice Aq kD.length cq) (.slice Ag hW.length cg) (.slice Ah kE.length ch));rw[HCN.o]at kF;obtain⟨u0,q0⟩:=hC.cell (i*6) (by omega);obtain⟨u1,q1⟩:=hC.cell (i*6+1) (by omega);obtain⟨u2,q2⟩:=hC.cell (i*6+2) (by omega);obtain⟨u3,q3⟩:=hC.cell (i*6+3) (by omega);obtain⟨u4,q4⟩:=hC.cell (i*6+4) (by omega);obtain⟨u5,q5⟩:=hC.cell (i*6+5) (by omega);have y0:=hC.free (i*6);have y1:=hC.free (i*6+1);have y2:=hC.free (i*6+2);have y3:=hC.free (i*6+3);have y4:=hC.free (i*6+4);have y5:=hC.free (i*6+5);clear kQ hP hC kJ kR kA kB hH aH KO;go_wp2_with fail;refine⟨⟨i+1,aC.o,by first|rfl|rw[kT],hV.o,kF.o,aE.o,kV.o⟩,?f3⟩
   case f3=>first|exact HM.o|(rw[kT];exact HM.o)
  ·have t1:decide ((i:Int)<(l.length:Int))=false:=by simp;omega
   have hG:Gr K wr g (l.map f).length (l.map f):=by
    rw[List.take_of_length_le (by omega)]at hI;rw[List.length_map];exact hI
   have hD:=hG.list (by rw[List.length_map];omega);rw[List.length_map]at hD;rw[List.take_of_length_le (by omega)]at hJ;have hT:Z9 (∃(A':Option Addr) (c':Nat),(Ending.returned (.slice (some ⟨g,0,none⟩) l.length l.length):Ending)=.returned (.slice A' l.length c')/\Bk (fun x=>K x\/w.heap.size<=x) wr (l.map f) A' c'/\wr.heap[wk]?=some (.cells #[.int .i64 ((a+Au l:Nat):Int)] 85 (0,0))/\Ce K Z wr sb u nd/\Ad (fun x=>x=sb\/x=wk) w wr):=Hd ⟨_,_,rfl,by rw[<-HG.o];exact hD,hJ,hQ.more fun x h=>.inl (.inl h),hb⟩;clear hi hI hJ hQ hb hG hD;go_wp2_with fail;go_ret
   exact hT.o
theorem Jbn {K K':Nat->Prop}{w:World}{t u:Ty}{cs us:List Value}{bb bo cb:Nat}(hr:Aw K w t cs) (hu:Aw K' w u us) (hH:∀j v,us[j]?=some v->w.cell? ⟨bb,bo+1+j,none⟩=some v) :
  Calls Tryz.prog 14 #[.agg cs.toArray,.slice (some ⟨bb,bo,none⟩) 1 cb] w fun e w'=>e=.returned (.bool (decide (Cj (Am t)+Cj (Am u)<=8192)))/\Below w.heap.size w w':=by
 obtain⟨g,hg⟩:∃g,g=w.heap.size:=⟨_,rfl⟩;obtain⟨w1,hD⟩:∃x,x=w.alloc (.cells cs.toArray 26):=⟨_,rfl⟩;have hC:Below w.heap.size w w1:=by rw[hD];exact (Below.refl _ _).alloc (Nat.le_refl _) _
 have hK:w1.heap[g]?=some (.cells cs.toArray 26 (0,0)):=by rw[hD,hg];exact heap_alloc_new w _
 have hF:=Hd hK;have hE:=Hd hC;have HW1:=Hd hD;have HG:=Hd hg;have KT:=Hd (Lv t K w1 cs (hr.later hC));have KU:Z9 (∀wx,Below w1.heap.size w1 wx->_):=Hd fun wx hx=>Lv u K' wx us ((hu.later hC).later hx);have HU:Z9 (∀wx,Below w1.heap.size w1 wx->∀j v,us[j]?=some v->wx.cell? ⟨bb,bo+1+j,none⟩=some v):=Hd fun wx hx j v hj=>Aa hx (Aa hC (hH j v hj));have hA:Cj (Am t)<=4097:=Nat.min_le_right _ _;have hB:Cj (Am u)<=4097:=Nat.min_le_right _ _;generalize Cj (Am t)=ct at KT hA ⊢;generalize Cj (Am u)=cu at KU hB ⊢;obtain⟨k,s,n,ps,fs,vs⟩:=t;obtain⟨A,c,B,d,C,e,rfl,-⟩:=hr.inv;obtain⟨k2,s2,n2,hT,hS,hU⟩:=u;obtain⟨A2,c2,B2,d2,C2,e2,rfl,-⟩:=hu.inv;simp only[Az]at hF HW1 KT KU HU ⊢;have hO:=Hd hA;have hP:=Hd hB;clear hr hu hH hg hD hC hK hA hB;go_enter Tryz.func14,Tryz.ntmps14;go_upto_region 1 with fail
 rw[<-HW1.o,<-HG.o];obtain⟨x0,x1,x2,x3,x4,x5⟩:=D4 hF.o;go_wp2_with fail;refine KT.o.mono ?_;rintro r w2 ⟨rfl,hI⟩;have hM:Z9 (Below w1.heap.size w1 w2):=Hd hI.below;clear hI KT x0 x1 x2 x3 x4 x5;go_wp2_with fail
 go_loopw [5,6] (fun nv iv wr=>∃(i m:Nat),iv=.int .i64 (i:Int)/\nv=.int .i64 (m:Int)/\((i=0/\m=ct)\/(i=1/\m=ct+cu))/\Below w1.heap.size w1 wr) (fun _ v _=>1 - (intOf v).toNat)
 case atStart=>exact⟨0,ct,rfl,rfl,.inl ⟨rfl,rfl⟩,hM.o⟩
 case round=>
  obtain⟨i,m,rfl,rfl,hQ,hb⟩:=hrel;have HB:=Hd hb;have hA:=hO.o;have hB:=hP.o;rcases hQ with ⟨rfl,rfl⟩|⟨rfl,rfl⟩
  ·have t1:decide (((0:Nat):Int)<(1:Int))=true:=rfl;have t2:decide ((m:Int)<=(8192:Int))=true:=by simp;omega
   have hL:wrap64 (((0:Nat):Int)+1)=((1:Nat):Int):=Ba (by decide);have hR:wrap64 ((m:Int)+(cu:Int))=((m+cu:Nat):Int):=by rw[Cm (by omega) (by omega)];omega
   have y0:=HU.o _ hb 0 _ rfl;have y1:=HU.o _ hb 1 _ rfl;have y2:=HU.o _ hb 2 _ rfl;have y3:=HU.o _ hb 3 _ rfl;have y4:=HU.o _ hb 4 _ rfl;have y5:=HU.o _ hb 5 _ rfl;rw[Nat.add_zero]at y0;have hG:=Hd (KU.o _ hb);clear hb hA hB;go_wp2_with fail;refine hG.o.mono ?_;rintro r w3 ⟨rfl,hJ⟩;have hN:Z9 (Below w1.heap.size w1 w3):=Hd (HB.o.trans (hJ.below.mono HB.o.size));clear hJ hG y0 y1 y2 y3 y4 y5;go_wp2_with fail;refine⟨⟨1,m+cu,by first|rfl|rw[hL],by first|rfl|rw[hR],.inr ⟨rfl,rfl⟩,hN.o⟩,?_⟩;first|decide|(rw[hL];decide)|(simp[intOf])
  ·have t1:decide (((1:Nat):Int)<(1:Int))=false:=rfl;have t2:decide (((ct+cu:Nat):Int)<=(8192:Int))=decide (ct+cu<=8192):=by rw[decide_eq_decide];omega
   clear hb hA hB;go_wp2_with fail;go_ret
   exact⟨by first|exact rfl|(simp;omega),hE.o.trans (HB.o.mono hE.o.size)⟩
theorem Xc {K:Nat->Prop}{w:World}{t:Ty}{cs:List Value}(hr:Aw K w t cs) (hf:Aj t=true) (hb:Ji t=true) (hc:Am t<=1000) :
  Calls Tryz.prog 18 #[.agg cs.toArray] w fun e w'=>∃(N:List Z8) (A:Option Addr) (c:Nat),e=.returned (.slice A N.length c)/\Cg w' N A/\(∀x,x∈N↔Bp x t=true)/\Below w.heap.size w w':=by
 obtain⟨w1,hD⟩:∃x,x=w.alloc (.cells cs.toArray 26):=⟨_,rfl⟩;have hE:Below w.heap.size w w1:=by rw[hD];exact (Below.refl _ _).alloc (Nat.le_refl _) _
 have hL:w1.heap[w.heap.size]?=some (.cells cs.toArray 26 (0,0)):=by rw[hD];exact heap_alloc_new w _
 have hC:=Zr t K w w1 cs (.slice none 0 0) [] [] none 0 hr hE (World.ownsRow_nil _ _ _ _) List.Pairwise.nil (Gi.no w1) (fun g o e=>by cases e) hf (by have h:=Ja3 t (by omega) hb;simp only[List.length_nil];omega) (by simp only[List.length_nil];omega);have hF:Z9 (Am t<=1000):=Hd hc;have hG:=Hd hL;have hM:=Hd hE;have HW1:=Hd hD;obtain⟨FR,hH⟩:∃f:Z8->Bool,f=fun x=>Bp x t:=⟨_,rfl⟩;have hA:∀x,Bp x t=FR x:=fun x=>by rw[hH]
 simp only[hA]at hC ⊢;obtain⟨ct,hI⟩:∃x,x=Am t:=⟨_,rfl⟩;rw[<-hI]at hF hC;have KF:=Hd hC;clear hH hA hC hI hc hb hf hE hL hD;obtain⟨k,s,n,ps,fs,vs⟩:=t;obtain⟨A,c,B,d,C,e,rfl,-⟩:=hr.inv;simp only[Az]at hG HW1 KF ⊢;clear hr;go_enter Tryz.func18,Tryz.ntmps18;go_upto_region 1 with fail
 rw[<-HW1.o];obtain⟨x0,x1,x2,x3,x4,x5⟩:=D4 hG.o;go_wp2_with fail;refine KF.o.mono ?_;rintro r w2 ⟨v2,l2,N,rfl,hN,hl,hB⟩;have hJ:=hB.len;simp only[List.length_nil,Nat.zero_add]at hJ;obtain⟨A2,c2,rfl,hK⟩:=hB.own.list (by have:=hF.o;omega);have HR:Z9 (Cg w2 l2 A2/\(∀x,x∈l2↔FR x=true)/\Below w.heap.size w w2):=Hd ⟨hK,fun x=>by rw[hB.mem,hN];simp,hB.low⟩;clear hN hl hB hJ hK KF x0 x1 x2 x3 x4 x5;go_wp2_with fail;go_ret
 exact⟨l2,A2,c2,rfl,HR.o.1,HR.o.2.1,HR.o.2.2⟩
theorem Un (w:World) (a:Option Addr) (l c:Nat):(binOp .eql 46 (.slice a l c) (.slice none 0 0)).run Tryz.prog w=.ok (.bool a.isNone) w:=by
 simp[binOp,run_equal_slice_nil w 46 9 a l c Tryz.underlying46]
theorem Nx {w:World}{N:List Z8}{A:Option Addr}{c:Nat}(h:Cg w N A) (hn:N.length<=1000000) :
  Calls Tryz.prog 117 #[.slice A N.length c] w fun e w'=>∃B d,e=.returned (.slice B N.length d)/\Cg w' N B/\(∀b o,B=some ⟨b,o,none⟩->w.heap.size<=b)/\Below w.heap.size w w':=by
 cases A with
 | none=>
  obtain rfl:N=[]:=by
   obtain⟨b,o,hA,-⟩:=h;exact List.eq_nil_of_length_eq_zero (Nat.eq_zero_of_not_pos fun h=>by cases hA h)
  have hq:=Un w none 0 c;simp only[Option.isNone_none]at hq;have HL:=Hd h;clear h hn;simp only[List.length_nil];go_enter Tryz.func117,Tryz.ntmps117;go_wp2_with fail;go_ret
  exact⟨none,0,rfl,HL.o,(fun b o e=>by cases e),Below.refl _ _⟩
 | some ad=>
  obtain⟨i0,hD,hE,hF,hG⟩:=Eg Hs;have HS:=Hd (Sc h);have HN:=Hd hn;have hq:=Un w (some ad) N.length c;simp only[Option.isNone_some]at hq;clear h hn;go_enter Tryz.func117,Tryz.ntmps117;have HE:=Hd (World.ownsRow_lit (base:=w.heap.size) (e:=9) (size:=1) w #[] 0 (Nat.le_refl _) (by decide) rfl);go_wp2_with (at_builtin;go_loud (refine wpList_append_own _ rfl _ _ 46 rfl w.heap.size 9 i0 (.string ⟨#[]⟩) 1 16 Tryz.underlying46 hD hE hF hG rfl (by decide) _ _ _ rfl HE.o ad N.length c (N.map .string) rfl ?a0 ?a1 ?a2 ?a3 ?a4 ?a5 ?_))
  case a1=>exact fun j u hj=>Aa ((Below.refl _ _).alloc (Nat.le_refl _) _) (HS.o j (.string u) (by rw[List.getElem?_map,hj];rfl))
  case a2=>
   intro v hv;rfl
  case a3=>exact Nat.le_trans (by have:=HN.o;omega) (by decide:1000000<=maxLen)
  case a4=>have:=HN.o;omega
  intro v' w' hC hB _;have ho:Du w.heap.size w' v' N:=by
   unfold Du;simpa using hC
  have hb:Below w.heap.size w w':=((Below.refl w.heap.size w).alloc (Nat.le_refl _) (.cells #[] 9)).grown hB (by simp) (fun k hk=>by simp[Value.ownBlock]at hk;omega);obtain⟨B,d,rfl,hl⟩:=ho.list (by have:=HN.o;omega);have HL:=Hd hl;have HB:=Hd hb;have HF:Z9 (∀b o,B=some ⟨b,o,none⟩->w.heap.size<=b):=Hd fun b o e=>by
   subst e;exact (World.ownsRow.lt ho b rfl).1
  clear hC hB ho hl hb
  go_wp2
  go_ret
  exact⟨B,d,rfl,HL.o,HF.o,HB.o⟩
theorem δ {n0:Z8}{u:Ty}{K Z:Nat->Prop}{wk sb nd:Nat}{w:World}{bp op a:Nat}{m:Option Nat}{n:Int}{ps:List Ty}{fs:Bx}{vs:Bt}(ha:De K w (.mk 16 n0 n ps fs vs) bp op) (kB:bp≠sb/\bp≠wk) (hK:∀x,K x->x<w.heap.size/\x≠sb/\x≠wk) (hE:Cp wk sb n0 w m true) (hS:Ce K Z w sb u nd) (hZ:Z wk) (hV:w.heap[wk]?=some (.cells #[.int .i64 (a:Int)] 85 (0,0))) (hW:wk≠sb) (kN:a+Am (.mk 16 n0 n ps fs vs)<=4096) (hR:Aj (.mk 16 n0 n ps fs vs)=true) (kP:nd=1) :
  Calls Tryz.prog 43 #[.pointer (some ⟨wk,0,none⟩),.pointer (some ⟨bp,op,none⟩),.map m] w (Ci n0 u K Z wk sb nd w true a (.mk 16 n0 n ps fs vs)):=by
 have hI:Am (.mk 16 n0 n ps fs vs)=1:=by
  obtain⟨l1,l2,-,-⟩:=D5 hR;have e1:ps=[]:=List.eq_nil_of_length_eq_zero ((Pm (Dg hR)).2.2 rfl);have e2:fs=[]:=List.eq_nil_of_length_eq_zero (l1 (by decide));have e3:vs=[]:=List.eq_nil_of_length_eq_zero (l2 (by decide));rw[e1,e2,e3,Bu];rfl
 obtain⟨PO,hQ⟩:∃PO:Ending->World->Prop,PO=Ci n0 u K Z wk sb nd w true a (.mk 16 n0 n ps fs vs):=⟨_,rfl⟩;have hN:Z9 (∀e w',(∃rs:List Value,e=.returned (.agg rs.toArray)/\Aw (fun x=>K x\/w.heap.size<=x) w' u rs/\w'.heap[wk]?=some (.cells #[.int .i64 ((a+1:Nat):Int)] 85 (0,0))/\Ce K Z w' sb u nd/\Ad (fun x=>x=sb\/x=wk) w w')->PO e w'):=Hd fun e w' h=>by
  rw[hQ];unfold Ci;rw[if_pos rfl,Eu,if_pos (by simp),hI];exact h
 rw[<-hQ];have hT:wk<w.heap.size:=(Array.getElem?_eq_some_iff.1 hV).1;have kJ:=Hd hS;obtain⟨es,fv,kn,hx,hL,-⟩:=hS.ex;have hU:sb<w.heap.size:=(Array.getElem?_eq_some_iff.1 hx).1;refine Ia ha kB hK ⟨hT,hU⟩ fun A c B d C e w1 g h=>?_;obtain⟨HX,HY,hH,HS1,HG,HW1,HP,kQ,kS,kK,kG,kR⟩:=h;obtain⟨k4,s4,n4,hF,hC,hG⟩:=u;obtain⟨A4,c4,B4,d4,C4,e4,rfl,-⟩:=hL.inv;simp only[Az,List.cons_append,List.nil_append]at hx hL;have kI:=Hd hL;have hJ:=Hd (Bj hH.o hT hV);have kD:w1.heap[sb]?=some (.cells #[.int .i64 k4,.string s4,.int .i64 n4,.slice A4 hF.length c4,.slice B4 hC.length d4,.slice C4 hG.length e4,.int .i64 (nd:Int),fv,.bool kn] 120 (0,0)):=Bj hH.o hU hx;have HU:Z9 (∀wx,Ad (fun x=>x=wk) w1 wx->(wx.cell? ⟨sb,0,none⟩=some (.int .i64 k4)/\wx.cell? ⟨sb,1,none⟩=some (.string s4)/\wx.cell? ⟨sb,2,none⟩=some (.int .i64 n4)/\wx.cell? ⟨sb,3,none⟩=some (.slice A4 hF.length c4)/\wx.cell? ⟨sb,4,none⟩=some (.slice B4 hC.length d4)/\wx.cell? ⟨sb,5,none⟩=some (.slice C4 hG.length e4)/\wx.cell? ⟨sb,6,none⟩=some (.int .i64 (nd:Int)))):=Hd fun wx hw=>by
  have h:=hw.up (fun e=>hW e.symm) kD;exact⟨Ch h 0,Ch h 1,Ch h 2,Ch h 3,Ch h 4,Ch h 5,Ch h 6⟩
 have hY:=Hd hK;have kL:=Hd hW;have kM:=Hd hZ;have hP:=hE.but (Ad.of_below (O:=fun _=>False) hH.o) fun _ h=>h.elim;obtain⟨z,hz,kE⟩:=hP.len;have f1:¬ z=0:=of_decide_eq_false kE;have lk:=hP.look n0 (Nat.le_trans kK.o (by decide));rw[show (true && decide (n0=n0))=true by simp,if_pos rfl]at lk;obtain⟨n1,kO⟩:∃n1,n1=a+nd:=⟨_,rfl⟩;have w12:wrap64 ((a:Int)+(nd:Int))=(n1:Int):=by rw[Cm (by omega) (by omega)];omega
 have v12:IntKind.i64.wrap ((a:Int)+(nd:Int))=(n1:Int):=(Hz _).trans w12;have kH:Z9 (n1=a+1):=Hd (by omega);have c0:=Ch hJ.o 0;simp only[List.getElem?_toArray,List.getElem?_cons_zero]at c0;have t1:decide ((4096:Int)<(a:Int))=false:=decide_eq_false (by omega);have t1':¬ (4096:Int)<(a:Int):=by omega
 have t1'':¬ 4096<a:=by omega
 obtain⟨x0,x1,x2,x3,x4,x5⟩:=HX.o w1 (Ad.refl _ _);clear ha kB hK hE hS hZ hV hW kN hT hU hQ kE kO hP hx kD hL kP hI hR;go_enter Tryz.func43,Tryz.ntmps43;go_upto_region 1 with fail
 rw[<-HW1.o,<-HG.o];go_upto_region 8 with fail
 clear c0 hz lk x0 x1 x2 x3 x4 x5;refine wp_region_held_drew (S:=(fun w'=>(w'.cell? ⟨sb,0,none⟩=some (.int .i64 k4)/\w'.cell? ⟨sb,1,none⟩=some (.string s4)/\w'.cell? ⟨sb,2,none⟩=some (.int .i64 n4)/\w'.cell? ⟨sb,3,none⟩=some (.slice A4 hF.length c4)/\w'.cell? ⟨sb,4,none⟩=some (.slice B4 hC.length d4)/\w'.cell? ⟨sb,5,none⟩=some (.slice C4 hG.length e4)/\w'.cell? ⟨sb,6,none⟩=some (.int .i64 (nd:Int))))) (by kernel_rfl) (HU.o _ (Ad.of_below (Below.refl _ _).drew)) (fun hA=>?_);refine Ab.s [0,1,2,4,5,6,7] ?_
 iterate 7 (refine Ab.k (so rfl) hA ?_;try simp only[Act.put,Bd,Be,Bf])
 refine Ab.d ?_;have v3:World.cell? (World.drew w1) ⟨wk,0,none⟩=some (.int .i64 a):=by rw[Ch (show (World.drew w1).heap[wk]?=_ from hJ.o)];rfl
 have v4:=Lib.frozen_of_heap (show (World.drew w1).heap[wk]?=_ from hJ.o) 0;refine wpAnyH_ready (rs:=[3]) (by kernel_rfl) (by simp) ?_;refine AllReadyH.cons (sd (some 58) rfl) (fun Kx hK=>?_) AllReadyH.nil;go_simp;refine hK.out _ _ (HU.o _ (Ad.of_below (Below.refl _ _).drew)) (fun hA=>?_);clear hK Kx;try simp only[Act.put,Bd,Be,Bf]
 refine Ab.s [8,9,10] ?_
 iterate 3 (refine Ab.k (so rfl) hA ?_;try simp only[Act.put,Bd,Be,Bf])
 refine Ab.d ?_;refine wpAnyH_ready (rs:=[11]) (by kernel_rfl) (by simp) ?_;refine AllReadyH.cons (sd none rfl) (fun Kx hK=>?_) AllReadyH.nil;go_simp;clear v3 v4;obtain⟨w6,hM⟩:∃x,x=(w1.setCell ⟨wk,0,none⟩ (.int .i64 (n1:Int))).drew:=⟨_,rfl⟩;have hD:Ad (fun x=>x=wk) w1 w6:=by rw[hM];exact ((Ad.refl (fun x=>x=wk) w1).put1 0 _).then (Below.refl _ _).drew
 have kA:Ad (fun x=>x=sb\/x=wk) w1 w6:=hD.mono fun x h=>.inr h;have kC:w6.heap[wk]?=some (.cells #[.int .i64 (n1:Int)] 85 (0,0)):=by rw[hM];exact Cw hJ.o 0 _
 have hX:=Hd kA;have hB:=Hd hD;have kF:=Hd kC;rw[<-hM];clear hM kA hD kC;refine hK.out _ _ (HU.o _ hB.o) (fun hA=>?_);clear hK Kx;try simp only[Act.put,Bd,Be,Bf]
 refine wpAnyH_done (by kernel_rfl) ?_ _;clear hA;obtain⟨x0,x1,x2,x3,x4,x5,-⟩:=HU.o _ hB.o;have rb:=HY.o w6 hX.o;go_upto_region 9 with fail
 obtain⟨q0,q1,q2,q3,q4,q5,z0,z1,z2,z3,z4,z5⟩:=Je rb;have RBX:=Hd rb;clear rb;go_wp2_with fail;obtain⟨r0,r1,r2,r3,r4,r5⟩:=D4 (Cd RBX.o (.int .i64 k4) (.string s4) (.int .i64 n4) (.slice A4 hF.length c4) (.slice B4 hC.length d4) (.slice C4 hG.length e4));clear q0 q1 q2 q3 q4 q5 z0 z1 z2 z3 z4 z5;refine bodyPost_ret (v:=.agg #[.int .i64 k4,.string s4,.int .i64 n4,.slice A4 hF.length c4,.slice B4 hC.length d4,.slice C4 hG.length e4]) (by simp[results,Tryz.results43,go_sem,r0,r1,r2,r3,r4,r5]) rfl ?_;clear r0 r1 r2 r3 r4 r5;have hO:=Cr w6 g (.int .i64 k4) (.string s4) (.int .i64 n4) (.slice A4 hF.length c4) (.slice B4 hC.length d4) (.slice C4 hG.length e4);have h1:=kH.o;have h2:=kG.o;have h3:=HG.o;have h4:Ad (fun x=>x=wk) w _:=((Ad.of_below (O:=fun x=>x=wk) hH.o).trans hB.o fun x hx=>.inl hx).trans hO fun x hx=>.inr (by omega);refine hN.o _ _ ⟨[.int .i64 k4,.string s4,.int .i64 n4,.slice A4 hF.length c4,.slice B4 hC.length d4,.slice C4 hG.length e4],rfl,?_,by rw[<-h1];exact hO.up (by show ¬ wk=g;omega) kF.o,?_,Dx hH.o hX.o HG.o hO⟩
 ·exact kI.o.but h4 fun x hx=>⟨fun e=>(hY.o x hx).2.2 e,.inl hx⟩
 ·exact kJ.o.but h4 (fun h=>kL.o h.symm) (fun x h=>.inl (h ▸ kM.o)) fun x hx=>(hY.o x hx).2.2
theorem R6 {Cc:Prop}{n0:Z8}{u:Ty}{K Z:Nat->Prop}{wk sb nd:Nat}{w:World}{bp op a:Nat}{m:Option Nat}{ps:List Ty}(ha:De K w (.mk 15 Bv 0 ps [] []) bp op) (aF:bp≠sb/\bp≠wk) (hK:∀x,K x->x<w.heap.size/\x≠sb/\x≠wk) (hE:Cp wk sb n0 w m true) (hS:Ce K Z w sb u nd) (kG:Z sb) (hX:Z wk) (kF:∀x,Z x->x<w.heap.size) (kX:w.heap[wk]?=some (.cells #[.int .i64 (a:Int)] 85 (0,0))) (kI:wk≠sb) (aQ:a+Am (.mk 15 Bv 0 ps [] [])<=4096) (hZ:Aj (.mk 15 Bv 0 ps [] [])=true/\Dk (.mk 15 Bv 0 ps [] [])=true) (kV:(nd=1/\Am u=1/\Cc)\/Bp n0 (.mk 15 Bv 0 ps [] [])=false) (ih:∀p∈ps,Jg Cc n0 u p) :
  Calls Tryz.prog 43 #[.pointer (some ⟨wk,0,none⟩),.pointer (some ⟨bp,op,none⟩),.map m] w (Ci n0 u K Z wk sb nd w true a (.mk 15 Bv 0 ps [] [])):=by
 obtain⟨aR,-⟩:=Lq hZ.1;have aP:Am (.mk 15 Bv 0 ps [] [])=1+Au ps:=by rw[Bu];rfl
 have aK:Bh n0 u (.mk 15 Bv 0 ps [] [])=E5 (ps.map (Bh n0 u)):=by
  rw[Eu,if_neg (by simp),if_pos (by rfl)]
 have aI:∀p∈ps,true=true->(nd=1/\Am u=1/\Cc)\/Bp n0 p=false:=fun p hp _=>kV.imp id fun h=>Rn h p hp;have aG:Au (ps.map (Bh n0 u))<=1099511627776:=by
  rcases kV with h|h
  ·have:=J2 (f:=Bh n0 u) (l:=ps) fun p _=>Jbk h.2.1 p;omega
  ·rw[List.map_congr_left (l:=ps) (g:=id) fun p hp=>Ec n0 u p (D9 hZ.1 p hp) (Rn h p hp),List.map_id];omega
 obtain⟨PO,kR⟩:∃PO:Ending->World->Prop,PO=Ci n0 u K Z wk sb nd w true a (.mk 15 Bv 0 ps [] []):=⟨_,rfl⟩;have hW:Z9 (∀e w',(∃rs:List Value,e=.returned (.agg rs.toArray)/\Aw (fun x=>K x\/w.heap.size<=x) w' (Bh n0 u (.mk 15 Bv 0 ps [] [])) rs/\w'.heap[wk]?=some (.cells #[.int .i64 ((a+Am (.mk 15 Bv 0 ps [] []):Nat):Int)] 85 (0,0))/\Ce K Z w' sb u nd/\Ad (fun x=>x=sb\/x=wk) w w')->PO e w'):=Hd fun e w' h=>by
  rw[kR];unfold Ci;rw[if_pos rfl];exact h
 rw[<-kR];have kU:wk<w.heap.size:=(Array.getElem?_eq_some_iff.1 kX).1;have aJ:sb<w.heap.size:=kF sb kG;refine Ia ha aF hK ⟨kU,aJ⟩ fun A c B d C e w1 g h=>?_;obtain⟨HX,HY,hR,HS1,HG,HW1,HP,aS,aV,aU,aA,aT⟩:=h;have kK:=Hd (Bj hR.o kU kX);have kE:=Hd hK;have aW:=Hd kI;have aX:=Hd hX;have HE:=Hd hE;have kQ:=hE.but (Ad.of_below (O:=fun _=>False) hR.o) fun _ h=>h.elim;obtain⟨z,hz,aL⟩:=kQ.len;have f1:¬ z=0:=of_decide_eq_false aL;have lk:=kQ.look Bv (by decide);obtain⟨n1,aH⟩:∃n1,n1=a+1:=⟨_,rfl⟩;obtain⟨w2,kH⟩:∃x,x=w1.setCell ⟨wk,0,none⟩ (.int .i64 ((a:Int)+1)):=⟨_,rfl⟩;have hP:Ad (fun x=>x=wk) w1 w2:=by rw[kH];exact (Ad.refl (fun x=>x=wk) w1).put1 0 _
 have kT:w2.heap[wk]?=some (.cells #[.int .i64 (n1:Int)] 85 (0,0)):=by rw[kH,aH];exact Cw kK.o 0 _
 obtain⟨w3,kW⟩:∃x,x=w2.alloc (.cells #[.int .i64 15,.string Bv,.int .i64 0,.slice A ps.length c,.slice B 0 d,.slice C 0 e] 26):=⟨_,rfl⟩;have kS:Below w2.heap.size w2 w3:=by rw[kW];exact (Below.refl _ _).alloc (Nat.le_refl _) _
 have hD:Ad (fun x=>x=wk) w1 w3:=hP.then kS;have hC:Ad (fun x=>x=wk) w w3:=(Ad.of_below (O:=fun x=>x=wk) hR.o).trans hD fun x h=>.inl h;have hJ:Ad (fun x=>x=sb\/x=wk) w1 w3:=hD.mono fun x h=>.inr h;have aM:Z9 (w3.heap[wk]?=some (.cells #[.int .i64 (n1:Int)] 85 (0,0))):=Hd (Bj kS (Array.getElem?_eq_some_iff.1 kT).1 kT);have aO:Z9 (Ce K (fun x=>Z x\/x=g) w3 sb u nd):=Hd ((hS.more fun x h=>h.elim .inl fun e=>.inr (by have:=HG.o;omega)).but hC (fun h=>kI h.symm) (fun x h=>.inl (.inl (h ▸ hX))) fun x hx=>(hK x hx).2.2);have aN:Z9 (Cp wk sb n0 w3 m true):=Hd (hE.but hC fun x h=>.inl h);have hB:Z9 (w.heap.size<w3.heap.size/\g<w3.heap.size):=Hd (by have h1:=HS1.o;have h2:=HG.o;have h3:=hJ.size;omega);have HZ:Z9 ((Z sb/\Z wk)/\∀x,Z x->x<w.heap.size):=Hd ⟨⟨kG,hX⟩,kF⟩;have aD:=Hd kH;have kY:Z9 (Ad (fun x=>x=sb\/x=wk) w1 w2):=Hd (hP.mono fun x h=>.inr h);have aE:=Hd kW;have hF:=Hd hJ;have c0:=Ch kK.o 0;have c1:=Lib.frozen_of_heap kK.o 0;simp only[List.getElem?_toArray,List.getElem?_cons_zero]at c0;have t1:decide ((4096:Int)<(a:Int))=false:=decide_eq_false (by omega);have t1':¬ (4096:Int)<(a:Int):=by omega
 have t1'':¬ 4096<a:=by omega
 obtain⟨x0,x1,x2,x3,x4,x5⟩:=HX.o w1 (Ad.refl _ _);have kP:=Qa (HP.o w3 hJ) (by omega) (fun x hx=>⟨Nat.lt_trans (hK x hx).1 hB.o.1,(hK x hx).2⟩) aN.o aO.o (.inl kG) (.inl hX) (fun x h=>h.elim (fun h=>Nat.lt_trans (kF x h) hB.o.1) fun e=>by have:=hB.o.2;omega) aM.o kI (by omega) (fun p hp=>⟨D9 hZ.1 p hp,(Fz hZ.2).2.2.1 p hp⟩) aI ih;have kB:(ps.map fun p=>if true=true then Bh n0 u p else p)=ps.map (Bh n0 u):=by simp
 rw[kB]at kP;obtain⟨U,hU⟩:∃U,U=E5 (ps.map (Bh n0 u)):=⟨_,rfl⟩;have aC:=Hd hU;have aB:Z9 (Bh n0 u (.mk 15 Bv 0 ps [] [])=U):=Hd (aK.trans hU.symm);have KA:=Hd kP;have kZ:=Hd aG;have HCN:Z9 (n1+Au ps=a+Am (.mk 15 Bv 0 ps [] [])):=Hd (by omega);clear ha aF hK hE hS kG hX kF kX kI aQ kU aJ kR aL kQ hZ kV ih aR aP aK aI aG kB kP hU aH kH hP kT kW kS hD hC hJ;go_enter Tryz.func43,Tryz.ntmps43;go_upto_region 1 with fail
 rw[<-HW1.o,<-HG.o];by_cases hq:n0=Bv
 ·rw[show (true && decide (n0=Bv))=true by simp[hq],if_pos rfl]at lk;go_upto_region 11 with fail
  clear c0 c1 lk hz x0 x1 x2 x3 x4 x5;rw[<-aD.o];obtain⟨x0,x1,x2,x3,x4,x5⟩:=HX.o w2 kY.o;go_upto_region 12 with fail
  clear x0 x1 x2 x3 x4 x5;rw[<-aE.o];obtain⟨x0,x1,x2,x3,x4,x5⟩:=HX.o w3 hF.o;go_upto_region 15 with fail
  go_wp2_with fail;refine KA.o.mono ?_;rintro e w5 ⟨A',c',rfl,kA,hY,kD,hQ⟩;have hH:=O7 kA.both (Nat.le_trans (J7 _).1 kZ.o) fun b h=>h.2;unfold Gz at hH;rw[List.length_map,<-aC.o]at hH;have KU:=Hd hH;have hV:=Hd hY;have kN:=Hd kD;have kJ:Z9 (Ad (fun x=>x=sb\/x=wk) w1 w5):=Hd (hF.o.trans hQ fun x h=>.inl h);have hO:Z9 (w3.heap.size<=w5.heap.size):=Hd hQ.size;clear kA hY kD hQ hH KA x0 x1 x2 x3 x4 x5;go_wp2_with fail;refine KU.o.mono ?_;rintro e w6 ⟨rs,rfl,kC,hL⟩;have hA:Aw (fun x=>K x\/g<x) w6 U rs:=kC.weak fun b h=>by
   have h1:=hB.o;have h2:=hO.o;rcases h with ⟨h|h,-⟩|h
   ·exact .inl h
   ·exact .inr (by omega)
   ·exact .inr (by omega)
  have hT:Z9 (Ad (fun x=>x=sb\/x=wk) w1 w6):=Hd (kJ.o.then hL);have kL:=Hd (Bj hL (Array.getElem?_eq_some_iff.1 hV.o).1 hV.o);have kO:=Hd (kN.o.but (Ad.of_below (O:=fun _=>False) hL) (fun h=>h) (fun x h=>h.elim) fun _ _ h=>h);clear kC hL KU;obtain⟨k4,s4,n4,hM,hI,hN⟩:=U;obtain⟨A4,c4,B4,d4,C4,e4,rfl,-⟩:=hA.inv;simp only[Az]at hA ⊢;have kM:=Hd hA;clear hA;have rb:=HY.o w6 hT.o;obtain⟨q0,q1,q2,q3,q4,q5,z0,z1,z2,z3,z4,z5⟩:=Je rb;have RBX:=Hd rb;clear rb;go_wp2_with fail;obtain⟨r0,r1,r2,r3,r4,r5⟩:=D4 (Cd RBX.o (.int .i64 k4) (.string s4) (.int .i64 n4) (.slice A4 hM.length c4) (.slice B4 hI.length d4) (.slice C4 hN.length e4));clear q0 q1 q2 q3 q4 q5 z0 z1 z2 z3 z4 z5;refine bodyPost_ret (v:=.agg #[.int .i64 k4,.string s4,.int .i64 n4,.slice A4 hM.length c4,.slice B4 hI.length d4,.slice C4 hN.length e4]) (by simp[results,Tryz.results43,go_sem,r0,r1,r2,r3,r4,r5]) rfl ?_;clear r0 r1 r2 r3 r4 r5;have hG:=Cr w6 g (.int .i64 k4) (.string s4) (.int .i64 n4) (.slice A4 hM.length c4) (.slice B4 hI.length d4) (.slice C4 hN.length e4);have h1:=HCN.o;have h2:=aA.o;have h3:=HG.o;refine hW.o _ _ ⟨[.int .i64 k4,.string s4,.int .i64 n4,.slice A4 hM.length c4,.slice B4 hI.length d4,.slice C4 hN.length e4],rfl,?_,by rw[<-h1];exact hG.up (by show ¬ wk=g;omega) kL.o,?_,Dx hR.o hT.o HG.o hG⟩
  ·rw[aB.o];exact kM.o.but hG fun x hx=>⟨fun e=>hx.elim (fun hx=>by have h4:=(kE.o x hx).1;have e:x=g:=e;omega) fun hx=>by have e:x=g:=e;omega,hx.imp id fun hx=>by omega⟩
  ·exact (kO.o.but hG (fun e=>by have e:sb=g:=e;omega) (fun x h=>.inl (.inr h)) fun x hx e=>by have h4:=(kE.o x hx).1;have e:x=g:=e;omega).more fun x h=>.inl (.inl h)
 ·rw[show (true && decide (n0=Bv))=false by simp[hq],if_neg (by decide)]at lk;go_upto_region 11 with fail
  clear c0 c1 lk hz x0 x1 x2 x3 x4 x5;rw[<-aD.o];obtain⟨x0,x1,x2,x3,x4,x5⟩:=HX.o w2 kY.o;go_upto_region 12 with fail
  clear x0 x1 x2 x3 x4 x5;rw[<-aE.o];obtain⟨x0,x1,x2,x3,x4,x5⟩:=HX.o w3 hF.o;go_upto_region 15 with fail
  go_wp2_with fail;refine KA.o.mono ?_;rintro e w5 ⟨A',c',rfl,kA,hY,kD,hQ⟩;have hH:=O7 kA.both (Nat.le_trans (J7 _).1 kZ.o) fun b h=>h.2;unfold Gz at hH;rw[List.length_map,<-aC.o]at hH;have KU:=Hd hH;have hV:=Hd hY;have kN:=Hd kD;have kJ:Z9 (Ad (fun x=>x=sb\/x=wk) w1 w5):=Hd (hF.o.trans hQ fun x h=>.inl h);have hO:Z9 (w3.heap.size<=w5.heap.size):=Hd hQ.size;clear kA hY kD hQ hH KA x0 x1 x2 x3 x4 x5;go_wp2_with fail;refine KU.o.mono ?_;rintro e w6 ⟨rs,rfl,kC,hL⟩;have hA:Aw (fun x=>K x\/g<x) w6 U rs:=kC.weak fun b h=>by
   have h1:=hB.o;have h2:=hO.o;rcases h with ⟨h|h,-⟩|h
   ·exact .inl h
   ·exact .inr (by omega)
   ·exact .inr (by omega)
  have hT:Z9 (Ad (fun x=>x=sb\/x=wk) w1 w6):=Hd (kJ.o.then hL);have kL:=Hd (Bj hL (Array.getElem?_eq_some_iff.1 hV.o).1 hV.o);have kO:=Hd (kN.o.but (Ad.of_below (O:=fun _=>False) hL) (fun h=>h) (fun x h=>h.elim) fun _ _ h=>h);clear kC hL KU;obtain⟨k4,s4,n4,hM,hI,hN⟩:=U;obtain⟨A4,c4,B4,d4,C4,e4,rfl,-⟩:=hA.inv;simp only[Az]at hA ⊢;have kM:=Hd hA;clear hA;have rb:=HY.o w6 hT.o;obtain⟨q0,q1,q2,q3,q4,q5,z0,z1,z2,z3,z4,z5⟩:=Je rb;have RBX:=Hd rb;clear rb;go_wp2_with fail;obtain⟨r0,r1,r2,r3,r4,r5⟩:=D4 (Cd RBX.o (.int .i64 k4) (.string s4) (.int .i64 n4) (.slice A4 hM.length c4) (.slice B4 hI.length d4) (.slice C4 hN.length e4));clear q0 q1 q2 q3 q4 q5 z0 z1 z2 z3 z4 z5;refine bodyPost_ret (v:=.agg #[.int .i64 k4,.string s4,.int .i64 n4,.slice A4 hM.length c4,.slice B4 hI.length d4,.slice C4 hN.length e4]) (by simp[results,Tryz.results43,go_sem,r0,r1,r2,r3,r4,r5]) rfl ?_;clear r0 r1 r2 r3 r4 r5;have hG:=Cr w6 g (.int .i64 k4) (.string s4) (.int .i64 n4) (.slice A4 hM.length c4) (.slice B4 hI.length d4) (.slice C4 hN.length e4);have h1:=HCN.o;have h2:=aA.o;have h3:=HG.o;refine hW.o _ _ ⟨[.int .i64 k4,.string s4,.int .i64 n4,.slice A4 hM.length c4,.slice B4 hI.length d4,.slice C4 hN.length e4],rfl,?_,by rw[<-h1];exact hG.up (by show ¬ wk=g;omega) kL.o,?_,Dx hR.o hT.o HG.o hG⟩
  ·rw[aB.o];exact kM.o.but hG fun x hx=>⟨fun e=>hx.elim (fun hx=>by have h4:=(kE.o x hx).1;have e:x=g:=e;omega) fun hx=>by have e:x=g:=e;omega,hx.imp id fun hx=>by omega⟩
  ·exact (kO.o.but hG (fun e=>by have e:sb=g:=e;omega) (fun x h=>.inl (.inr h)) fun x hx e=>by have h4:=(kE.o x hx).1;have e:x=g:=e;omega).more fun x h=>.inl (.inl h)
