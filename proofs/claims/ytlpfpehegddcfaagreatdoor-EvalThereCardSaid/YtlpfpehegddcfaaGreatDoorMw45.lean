import Derived.Test.YtlpfpehegddcfaaGreatDoorMw44
namespace Go.Proofs.YtlpfpehegddcfaaGreatDoor
set_option maxRecDepth 100000
set_option maxHeartbeats 64000000
open Go.RowKit
def Jr (n0:Z8) (body:Ty) (fl:Int) (x:Z8):Z8×Int×Ty:=(x,fl,Bg n0 (Cf x) body)
theorem U2 {K:Nat->Prop}{w:World}{x:Z8}{es:List Value}(h:An K w (Cf x) es):∃A c B d C e,es=[.int .i64 10,.string x,.int .i64 0,.slice A 0 c,.slice B 0 d,.slice C 0 e]/\x.size<=1000000000000000:=by
 obtain⟨A,c,B,d,C,e,rfl,ht,-⟩:=An.inv (k:=10) (t:=x) (n:=0) (ps:=[]) (fs:=[]) (vs:=[]) h;exact⟨A,c,B,d,C,e,rfl,ht⟩
theorem Jeh {K K':Nat->Prop}{w:World}{u body:Ty}{us cs:List Value}{ks:List Z8}{n0:Z8}{fl:Int}(hu:An K w u us) (hr:An K' w body cs) (hK:∀x,K x->x<w.heap.size) (hK':∀x,K' x->x<w.heap.size)
  (cR:∀wx,Below w.heap.size w wx->Calls Tryz.prog 50 #[.agg us.toArray] wx fun e w'=>∃A c,e=.returned (.slice A ks.length c)/\Bh (fun b=>b<w.heap.size\/wx.heap.size<=b) w' (ks.map Cf) A c/\Below wx.heap.size wx w')
  (hid:∀x∈ks,M5 x=true/\x.size<=1000000000000000) (dC:Co u=true) (bR:Ai body=true/\Dy body=true/\Am body<=20) (kT:ks.length<=50) (aK:Ca n0=true/\n0.size<=1000000000000000) (eK:0<=fl) (eL:fl<=3) :
  Calls Tryz.prog 26 #[.string n0,.agg us.toArray,.agg cs.toArray,.int .i64 fl] w fun e w'=>∃rs,e=.returned (.tuple #[.agg rs.toArray,.int .i64 0])/\An (fun b=>b<w'.heap.size) w' (.mk 14 Bp 0 [] (ks.map (Jr n0 body fl)) []) rs/\Below w.heap.size w w':=by
 obtain⟨g,hg⟩:∃g,g=w.heap.size:=⟨_,rfl⟩;obtain⟨w1,kV⟩:∃x,x=w.alloc (.cells us.toArray 26):=⟨_,rfl⟩;have bM:Below w.heap.size w w1:=by rw[kV];exact (Below.refl _ _).alloc (Nat.le_refl _) _
 have bY:w1.heap[g]?=some (.cells us.toArray 26 (0,0)):=by rw[kV,hg];exact heap_alloc_new w _
 have bW:w1.heap.size=g+1:=by rw[kV,hg];simp
 obtain⟨w2,kW⟩:∃x,x=w1.alloc (.cells cs.toArray 26):=⟨_,rfl⟩;have hV:Below w1.heap.size w1 w2:=by rw[kW];exact (Below.refl _ _).alloc (Nat.le_refl _) _
 have bZ:w2.heap[g+1]?=some (.cells cs.toArray 26 (0,0)):=by rw[kW,<-bW];exact heap_alloc_new w1 _
 have bX:w2.heap.size=g+2:=by rw[kW];simp[bW]
 obtain⟨w3,kX⟩:∃x,x=w2.alloc (.cells #[.int .i64 0,.string ⟨#[]⟩,.int .i64 0,.slice none 0 0,.slice none 0 0,.slice none 0 0] 26):=⟨_,rfl⟩;have bN:Below w2.heap.size w2 w3:=by rw[kX];exact (Below.refl _ _).alloc (Nat.le_refl _) _
 have dG:w3.heap[g+2]?=some (.cells #[.int .i64 0,.string ⟨#[]⟩,.int .i64 0,.slice none 0 0,.slice none 0 0,.slice none 0 0] 26 (0,0)):=by rw[kX,<-bX];exact heap_alloc_new w2 _
 have dF:w3.heap.size=g+3:=by rw[kX];simp[bX]
 have hX:Below w1.heap.size w1 w3:=hV.trans (bN.mono hV.size);have hQ:Z9 (Below w.heap.size w w3):=Hd (bM.trans (hX.mono bM.size));have bI:=Hd (Ay hX (Array.getElem?_eq_some_iff.1 bY).1 bY);have bG:=Hd (Ay bN (Array.getElem?_eq_some_iff.1 bZ).1 bZ);have eF:=Hd dG;have hT:=Hd dF;have HG:=Hd hg;have HW1:=Hd kV;have cK:=Hd kW;have eB:=Hd kX;have cJ:Z9 (∀wx,Below w3.heap.size w3 wx->An K wx u us):=Hd fun wx hx=>(hu.later hQ.o).later hx;have aD:Z9 (∀wx,Below w3.heap.size w3 wx->An K' wx body cs):=Hd fun wx hx=>(hr.later hQ.o).later hx;have HK':=Hd hK';have hG:=fun wx (hx:Below w3.heap.size w3 wx)=>Fc (cJ.o wx hx);have hF:=fun wx (hx:Below w3.heap.size w3 wx)=>Fc (aD.o wx hx);have kS:Co body=true:=by unfold Co;rw[bR.1,decide_eq_true (by omega)];rfl
 simp only[dC,kS]at hG hF;have bK:=fun wx=>Ex n0 wx aK.2;simp only[aK.1]at bK;have hU:=fun wx (hx:Below w3.heap.size w3 wx)=>cR wx (hQ.o.trans (hx.mono hQ.o.size));have dO:=Hd hid;have kI:=Hd bR;have dU:=Hd aK;have kK:=Hd kT;obtain⟨k1,s1,n1,eX,eV,eZ⟩:=u;obtain⟨A1,c1,B1,d1,C1,e1,rfl,-⟩:=hu.inv;have aA:Z9 (∃q,q=body):=Hd ⟨_,rfl⟩;obtain⟨body2,hB⟩:∃q,q=body:=⟨_,rfl⟩;rw[<-hB]at aD kI hr ⊢;have eT:=Hd hB;obtain⟨k2,s2,n2,eY,eW,fA⟩:=body;rw[hB]at hr;obtain⟨A2,c2,B2,d2,C2,e2,rfl,-⟩:=hr.inv;simp only[Ao]at bI bG hG hF hU aD HW1 cK ⊢;have cM:=Hd hG;have cL:=Hd hF;have KN:=Hd bK;have cO:=Hd hU;have f0:decide (fl<0)=false:=by simp;omega
 have f3:decide (3<fl)=false:=by simp;omega
 clear hu hr hK hK' cR hid dC bR kT aK eK eL hg kV bM bY bW kW hV bZ bX kX bN dG dF hX hG hF kS bK hU aA hB cJ;go_enter Tryz.func26,Tryz.ntmps26;go_upto_region 1 with fail
 rw[<-HW1.o,<-cK.o,<-eB.o,<-HG.o];obtain⟨x0,x1,x2,x3,x4,x5⟩:=Dw bI.o;go_wp2_with fail;refine (cM.o w3 (Below.refl _ _)).mono ?_;rintro r w4 ⟨rfl,cU⟩;have kY:=Hd cU;clear cU x0 x1 x2 x3 x4 x5;obtain⟨x0,x1,x2,x3,x4,x5⟩:=Dw (Ay kY.o (by have:=hT.o;omega) bG.o);go_wp2_with fail;refine (cL.o w4 kY.o).mono ?_;rintro r w5 ⟨rfl,cV⟩;have cC:Z9 (Below w3.heap.size w3 w5):=Hd (kY.o.trans (cV.mono kY.o.size));clear cV x0 x1 x2 x3 x4 x5;go_wp2_with fail;refine (KN.o w5).mono ?_;rintro r w6 ⟨rfl,cW⟩;have aT:Z9 (Below w3.heap.size w3 w6):=Hd (cC.o.trans (cW.mono cC.o.size));clear cW cM cL KN;go_upto_region 4 with fail
 clear f0 f3;generalize hW:w6.alloc (.cells #[.int .i64 14,.string ⟨#[]⟩,.int .i64 0,.slice none 0 0,.slice none 0 0,.slice none 0 0] 26)=w7;obtain⟨gO,bS⟩:∃x,x=w6.heap.size:=⟨_,rfl⟩;rw[<-bS];have cX:Below w6.heap.size w6 w7:=by rw[<-hW];exact (Below.refl _ _).alloc (Nat.le_refl _) _
 have cA:w7.heap[gO]?=some (.cells #[.int .i64 14,.string ⟨#[]⟩,.int .i64 0,.slice none 0 0,.slice none 0 0,.slice none 0 0] 26 (0,0)):=by rw[<-hW,bS];exact heap_alloc_new w6 _
 have kZ:Z9 (Below w3.heap.size w3 w7):=Hd (aT.o.trans (cX.mono aT.o.size));have eE:=Hd cA;have kC:Z9 (g+3<=gO/\gO<w7.heap.size):=Hd ⟨by have h1:=hT.o;have h2:=aT.o.size;omega,(Array.getElem?_eq_some_iff.1 cA).1⟩;clear hW bS cX cA;obtain⟨x0,x1,x2,x3,x4,x5⟩:=Dw (Ay kZ.o (by have:=hT.o;omega) bI.o);go_wp2_with fail;refine (cO.o w7 kZ.o).mono ?_;rintro r w8 ⟨AP,cP,rfl,hP,aE⟩;have aU:Z9 (Below w3.heap.size w3 w8):=Hd (kZ.o.trans (aE.mono kZ.o.size));have bF:=Hd (Ay aE kC.o.2 eE.o);have HP:=Hd hP;have dP:Z9 (gO<w8.heap.size):=Hd (Nat.lt_of_lt_of_le kC.o.2 aE.size);clear aE hP cO x0 x1 x2 x3 x4 x5;go_wp2_with fail
 go_loopw [42,11] (fun v nv wr=>∃(j m:Nat) (rv:Value),j<=ks.length/\v=.int .i64 j/\nv=.int .i64 m/\m<=1+20*j/\Ad (fun x=>x=gO) w8 wr/\wr.heap[gO]?=some (.cells #[.int .i64 14,.string ⟨#[]⟩,.int .i64 0,.slice none 0 0,rv,.slice none 0 0] 26 (0,0))/\Ka (fun x=>x=gO\/x=g+2) w8.heap.size wr rv ((ks.take j).map (Jr n0 body2 fl))/\∀b,rv.ownBlock=some b->¬ (b=gO\/b=g+2)) (fun v _ _=>ks.length - (intOf v).toNat)
 case atStart=>exact⟨0,1,_,Nat.zero_le _,rfl,rfl,by omega,Ad.refl _ _,bF.o,Ka.nil _ _ _,fun b e=>by cases e⟩
 case round=>
  obtain⟨j,m,rv,hj,rfl,rfl,hm,kD,aS,kE,aM⟩:=hrel;have kT:=kK.o;by_cases hJ:j<ks.length
  ·have t1:decide ((j:Int)<(ks.length:Int))=true:=by simp;omega
   have dI:wrap64 ((j:Int)+1)=((j+1:Nat):Int):=Ax (by omega);have HM:=Hd (Bf hJ);have kJ:Z9 (j+1<=ks.length):=Hd hJ;obtain⟨tb,tq,hA,cQ,cT⟩:=HP.o.at (by rw[List.length_map];omega);subst hA;have kQ:=cT j (by rw[List.length_map];exact hJ);rw[List.getElem_map]at kQ;obtain⟨es,dB,hq⟩:=kQ;have dE:tb≠gO:=fun e=>by
    have h1:=kC.o;have h2:=HG.o;rcases cQ with h|h <;> omega
   obtain⟨Av,cv,hM⟩:∃Av cv,rv=.slice Av j cv:=by
    obtain⟨eS,hC,-⟩:=kE;obtain⟨A,c,h,-⟩:=Fh hC;rw[List.length_map,List.length_take,Nat.min_eq_left (by omega)]at h;exact⟨A,c,h⟩
   subst hM;have kA:=dO.o (ks[j]'hJ) (List.getElem_mem hJ);have bT:(ks.take (j+1)).map (Jr n0 body2 fl)=(ks.take j).map (Jr n0 body2 fl)++[(ks[j]'hJ,fl,Bg n0 (Cf (ks[j]'hJ)) body2)]:=by
    rw[List.take_succ_eq_append_getElem hJ,List.map_append];rfl
   have dD:((ks.take j).map (Jr n0 body2 fl)).length=j:=by rw[List.length_map,List.length_take];omega
   generalize ks[j]'hJ=xn at hq kA bT;obtain⟨Ae,ce,Be,de,Ce,ee,eJ,eO⟩:=U2 hq;subst eJ;have hY:Below w3.heap.size w3 wr:=((Ad.of_below (O:=fun _=>False) aU.o).trans kD fun x h=>.inr (by have h:x=gO:=h;have h1:=kC.o;have h2:=hT.o;omega)).below (Nat.le_refl _) fun x h=>h.elim;have hc:∀j2 u2,[Value.int .i64 10,.string xn,.int .i64 0,.slice Ae 0 ce,.slice Be 0 de,.slice Ce 0 ee][j2]?=some u2->wr.cell? ⟨tb,tq+j*6+j2,none⟩=some u2:=fun j2 u2 h=>kD.cell dE (dB j2 u2 h);obtain⟨x0,x1,x2,x3,x4,x5⟩:(wr.cell? ⟨tb,tq+j*6,none⟩=some (.int .i64 10)/\wr.cell? ⟨tb,tq+j*6+1,none⟩=some (.string xn)/\wr.cell? ⟨tb,tq+j*6+2,none⟩=some (.int .i64 0)/\wr.cell? ⟨tb,tq+j*6+3,none⟩=some (.slice Ae 0 ce)/\wr.cell? ⟨tb,tq+j*6+4,none⟩=some (.slice Be 0 de)/\wr.cell? ⟨tb,tq+j*6+5,none⟩=some (.slice Ce 0 ee)):=⟨hc 0 _ rfl,hc 1 _ rfl,hc 2 _ rfl,hc 3 _ rfl,hc 4 _ rfl,hc 5 _ rfl⟩;have i1:(0:Int)<=(j:Int):=by omega
   have i2:(j:Int)<(ks.length:Int):=by omega
   have aC:=Hd hY;have aX:=Hd kD;have bH:=Hd aS;have cH:=Hd kE;have bC:=Hd aM;have bA:=Hd hm;have hS:=Hd kA;have cG:=Hd bT;have aZ:=Hd dD;have eA:Z9 (∀(K2:Nat->Prop) (wy:World),An K2 wy (Cf xn) [Value.int .i64 10,.string xn,.int .i64 0,.slice Ae 0 ce,.slice Be 0 de,.slice Ce 0 ee]):=Hd fun K2 wy=>Te hq;clear hj hm kD aS kE aM kT cQ cT dB hq dE kA bT dD eO hY hc;go_upto_region 8 with fail
   clear x0 x1 x2 x3 x4 x5 i1 i2 t1;generalize hW:wr.alloc (.cells #[.int .i64 10,.string xn,.int .i64 0,.slice Ae 0 ce,.slice Be 0 de,.slice Ce 0 ee] 26)=wa;have cY:Below wr.heap.size wr wa:=by rw[<-hW];exact (Below.refl _ _).alloc (Nat.le_refl _) _
   have aP:wa.heap[wr.heap.size]?=some (.cells #[.int .i64 10,.string xn,.int .i64 0,.slice Ae 0 ce,.slice Be 0 de,.slice Ce 0 ee] 26 (0,0)):=by rw[<-hW];exact heap_alloc_new wr _
   have cD:=Hd cY;have eG:=Hd aP;have cF:Z9 (wr.heap.size<wa.heap.size):=Hd (Array.getElem?_eq_some_iff.1 aP).1;have bJ:=Mj xn wa hS.o.2;rw[hS.o.1]at bJ;have KI:=Hd bJ;obtain⟨x0,x1,x2,x3,x4,x5⟩:=Dw aP;clear hW cY aP bJ;go_wp2_with fail;refine KI.o.mono ?_;rintro r wb ⟨rfl,aF⟩;have aV:Z9 (Below wr.heap.size wr wb):=Hd (cD.o.trans (aF.mono cD.o.size));have kP:=Hd (Ay aF cF.o eG.o);have dQ:Z9 (wa.heap.size<=wb.heap.size):=Hd aF.size;clear aF KI x0 x1 x2 x3 x4 x5;have hR:Z9 (Below w3.heap.size w3 wb):=Hd (aC.o.trans (aV.o.mono aC.o.size));obtain⟨x0,x1,x2,x3,x4,x5⟩:=Dw kP.o;obtain⟨y0,y1,y2,y3,y4,y5⟩:=Dw (Ay hR.o (by have:=hT.o;omega) bG.o);obtain⟨wc,aN⟩:∃x,x=wb.alloc (.cells #[.string n0,.int .i64 10,.string xn,.int .i64 0,.slice Ae 0 ce,.slice Be 0 de,.slice Ce 0 ee] 41):=⟨_,rfl⟩;have aG:Below wb.heap.size wb wc:=by rw[aN];exact (Below.refl _ _).alloc (Nat.le_refl _) _
   have cB:wc.heap[wb.heap.size]?=some (.cells #[.string n0,.int .i64 10,.string xn,.int .i64 0,.slice Ae 0 ce,.slice Be 0 de,.slice Ce 0 ee] 41 (0,0)):=by rw[aN];exact heap_alloc_new wb _
   have aW:Z9 (Below wr.heap.size wr wc):=Hd (aV.o.trans (aG.mono aV.o.size));have kF:Z9 (Below w3.heap.size w3 wc):=Hd (hR.o.trans (aG.mono hR.o.size));have bB:=Hd (Jc3 (Cc:=True) (n0:=n0) (bb:=wb.heap.size) (bo:=0) (cb:=1) (aD.o wc kF.o) (eA.o K' wc) (fun x hx=>Nat.lt_of_lt_of_le (HK'.o x hx) (Nat.le_trans hQ.o.size kF.o.size)) (by rw[Ch cB];rfl) (fun j v hj=>by rw[Ch cB];simpa [Nat.add_comm 1 j] using hj) dU.o ⟨kI.o.1,kI.o.2.1,Nat.le_trans kI.o.2.2 (by decide)⟩ ⟨G1 xn,Jcx xn,by rw[H9];decide⟩ (Jga ⟨G1 xn,Jcx xn,by rw[H9];decide⟩ _ (Tt _ fun y _ h=>by rw[Jf2]at h;cases h)) (.inl trivial) fun _=>H9 xn);have aY:Z9 (Am (Bg n0 (Cf xn) body2)<=20):=Hd (Nat.le_trans (Qn (H9 xn) _) kI.o.2.2);obtain⟨T7,cS⟩:∃T,T=Bg n0 (Cf xn) body2:=⟨_,rfl⟩;rw[<-cS]at bB aY cG;have eC:=Hd aN;have kN:=Hd aG;clear aN aG cB cS;go_upto_region 9 with fail
   go_wp2_with fail;rw[<-eC.o];refine bB.o.mono ?_;rintro r wd ⟨rs,rfl,aL,bO⟩;obtain⟨k7,s7,n7,hN,hI,hO⟩:=T7;obtain⟨A7,c7,B7,d7,C7,e7,rfl,-⟩:=aL.inv;simp only[Ao]at aL ⊢;have cI:=Hd aL;have aA:=Hd bO;have kO:=Hd (Ay (kN.o.trans (bO.mono kN.o.size)) (Nat.lt_of_lt_of_le cF.o (dQ.o)) kP.o);clear aL bO bB x0 x1 x2 x3 x4 x5 y0 y1 y2 y3 y4 y5;go_upto_region 10 with fail
   generalize hW:wd.alloc (.cells #[.int .i64 k7,.string s7,.int .i64 n7,.slice A7 hN.length c7,.slice B7 hI.length d7,.slice C7 hO.length e7] 26)=we;have aH:Below wd.heap.size wd we:=by rw[<-hW];exact (Below.refl _ _).alloc (Nat.le_refl _) _
   have aQ:we.heap[wd.heap.size]?=some (.cells #[.int .i64 k7,.string s7,.int .i64 n7,.slice A7 hN.length c7,.slice B7 hI.length d7,.slice C7 hO.length e7] 26 (0,0)):=by rw[<-hW];exact heap_alloc_new wd _
   have kG:=Hd aH;have eH:=Hd aQ;have dR:Z9 (wd.heap.size<we.heap.size):=Hd (Array.getElem?_eq_some_iff.1 aQ).1;have dL:Z9 (Below wc.heap.size wc we):=Hd (aA.o.trans (aH.mono aA.o.size));have cE:Z9 (Below wr.heap.size wr we):=Hd (aW.o.trans (dL.o.mono aW.o.size));have cZ:Cs (Am (.mk k7 s7 n7 hN hI hO))=Am (.mk k7 s7 n7 hN hI hO):=by have:=aY.o;unfold Cs;omega
   have hH:=Jl (cI.o.later aH);rw[cZ]at hH;obtain⟨q,hq⟩:∃q,q=Am (.mk k7 s7 n7 hN hI hO):=⟨_,rfl⟩;rw[<-hq]at hH;have HQ:Z9 (q<=20):=Hd (by rw[hq];exact aY.o);have cN:=Hd hH;obtain⟨x0,x1,x2,x3,x4,x5⟩:=Dw aQ;have dJ:wrap64 ((m:Int)+(q:Int))=((m+q:Nat):Int):=by
    have h1:=bA.o;have h2:=HQ.o;have h3:=kK.o;have h4:=kJ.o;rw[Cq (by omega) (by omega)];omega
   have t4:decide ((4096:Int)<(m:Int)+(q:Int))=false:=by
    have h1:=bA.o;have h2:=HQ.o;have h3:=kK.o;have h4:=kJ.o;simp;omega
   clear hW aH aQ cZ hH hq;go_wp2_with fail;refine cN.o.mono ?_;rintro r wf ⟨rfl,bP⟩;have kH:=Hd bP;have aB:Z9 (Below wr.heap.size wr wf):=Hd (cE.o.trans (bP.mono cE.o.size));clear bP cN x0 x1 x2 x3 x4 x5;go_upto_region 15 with fail
   have bE:=Hd dJ;clear t4 dJ;have bQ:Ad (fun _=>False) wr wf:=Ad.of_below aB.o;obtain⟨o0,o1,o2,o3,o4,o5⟩:=Dw (Ay aB.o (Array.getElem?_eq_some_iff.1 bH.o).1 bH.o);obtain⟨x0,x1,x2,x3,x4,x5⟩:=Dw (Ay kH.o dR.o eH.o);have a1:wf.cell? ⟨wr.heap.size,1,none⟩=some (.string xn):=by
    rw[Ch (Ay (kG.o.trans (kH.o.mono kG.o.size)) (Array.getElem?_eq_some_iff.1 kO.o).1 kO.o)];rfl
   obtain⟨wn,aO⟩:∃x,x=wf.alloc (.cells #[.string xn,.int .i64 fl,.int .i64 k7,.string s7,.int .i64 n7,.slice A7 hN.length c7,.slice B7 hI.length d7,.slice C7 hO.length e7] 59):=⟨_,rfl⟩;have aI:Below wf.heap.size wf wn:=by rw[aO];exact (Below.refl _ _).alloc (Nat.le_refl _) _
   have dH:wn.heap[wf.heap.size]?=some (.cells #[.string xn,.int .i64 fl,.int .i64 k7,.string s7,.int .i64 n7,.slice A7 hN.length c7,.slice B7 hI.length d7,.slice C7 hO.length e7] 59 (0,0)):=by rw[aO];exact heap_alloc_new wf _
   have hZ:Below wr.heap.size wr wn:=aB.o.trans (aI.mono aB.o.size);obtain⟨eS,hC,dA⟩:=cH.o.keep (Ad.of_below (O:=fun _=>False) hZ) (fun _ h=>h.elim) bC.o;rw[aZ.o]at hC;obtain⟨i0,eM,eP,eQ,eR⟩:=Ec Jd7;have hE:=Hd hZ;have kM:=Hd hC;have dM:=Hd dA;have eI:=Hd dH;have eD:=Hd aO;have kL:=Hd (cI.o.later (kG.o.trans ((kH.o.trans (aI.mono kH.o.size)).mono kG.o.size)));have dN:Z9 (wf.heap.size<=wn.heap.size):=Hd aI.size;clear o0 o1 o2 o3 o5 bQ aO aI dH hZ hC dA;go_wp2_with (at_builtin;refine wpList_plain rfl fun Kx hK=>?_;rw[<-eD.o];go_loud (refine B5 _ _ 23 rfl w8.heap.size 59 i0 (.agg #[.string ⟨#[]⟩,.int .i64 0,.int .i64 0,.string ⟨#[]⟩,.int .i64 0,.slice none 0 0,.slice none 0 0,.slice none 0 0]) 8 128 Tryz.underlying23 eM eP eQ eR rfl (by decide) _ _ _ rfl kM.o ⟨wf.heap.size,0,none⟩ 1 1 [.string xn,.int .i64 fl,.int .i64 k7,.string s7,.int .i64 n7,.slice A7 hN.length c7,.slice B7 hI.length d7,.slice C7 hO.length e7] rfl rfl ?a0 ?a1 ?a2 ?a3 ?a4 ?_))
   case a0=>
    intro j2 u2 eN
    (try rw[Wu])
    rw[Ch eI.o];simpa using eN
   case a1=>
    exact⟨rfl,rfl,rfl,rfl,rfl,rfl,rfl,rfl⟩
   case a2=>have h1:=kJ.o;have h2:=kK.o;unfold maxLen;omega
   case a3=>have h1:=kJ.o;have h2:=kK.o;omega
   case a4=>exact Nat.le_trans aX.o.size hE.o.size
   intro v5 w5 hD aJ _ kR;refine hK _ _ ?_;clear hK;obtain⟨A5,c5,rfl,-⟩:=Fh hD;have kB:=fun b (h:(Value.slice Av j cv).ownBlock=some b)=>cH.o.low h;have g1:=kC.o;have g2:=HG.o;have g3:=dP.o;have g4:=aX.o.size;have g5:=aW.o.size;have g6:=hE.o.size;have g7:=aU.o.size;have g8:=hQ.o.size;have g9:=kG.o.size;have ga:=kH.o.size;have gb:=dN.o;have gn:gO<wn.heap.size:=by omega
   have aR:w5.heap[gO]?=some (.cells #[.int .i64 14,.string ⟨#[]⟩,.int .i64 0,.slice none 0 0,.slice Av j cv,.slice none 0 0] 26 (0,0)):=by
    rw[aJ.block gO gn fun e=>bC.o gO e.symm (.inl rfl)];exact Ay hE.o (by omega) bH.o
   obtain⟨bU,bV⟩:=Ka.push (O:=(fun x=>x=gO\/x=g+2)) (B:=w8.heap.size) (w:=wn) (w':=w5) (v:=.slice Av j cv) (nm:=xn) (fl:=fl) (t:=.mk k7 s7 n7 hN hI hO) (fs:=(ks.take j).map (Jr n0 body2 fl)) (fun x h=>by rcases h with rfl|rfl <;> omega) bC.o dM.o (by rw[aZ.o];exact kM.o.1) hS.o.2 (kL.o.weak fun x hx=>by
    refine⟨by omega,fun e=>?_,fun e=>?_⟩
    ·rcases hx.1 with h|h
     ·have:=HK'.o _ h;omega
     ·omega
    ·have h1:=kB x e;rcases hx.1 with h|h
     ·have:=HK'.o _ h;omega
     ·omega) (by rw[aZ.o];exact hD) aJ kR
   rw[<-cG.o]at bU;have kU:Ad (fun x=>x=gO) w5 (w5.setCell ⟨gO,4,none⟩ (.slice A5 (j+1) c5)):=(Ad.refl (fun x=>x=gO) w5).set (p:=⟨gO,4,none⟩) (.inl rfl) _;have dV:Z9 (Ad (fun x=>x=gO) w8 (w5.setCell ⟨gO,4,none⟩ (.slice A5 (j+1) c5))):=Hd (((aX.o.then hE.o).grown aJ fun k hk=>.inr (kB k hk).1).set (p:=⟨gO,4,none⟩) (.inl rfl) _);have dW:Z9 ((w5.setCell ⟨gO,4,none⟩ (.slice A5 (j+1) c5)).heap[gO]?=some (.cells #[.int .i64 14,.string ⟨#[]⟩,.int .i64 0,.slice none 0 0,.slice A5 (j+1) c5,.slice none 0 0] 26 (0,0))):=Hd (by rw[Je4 aR];rfl);have dX:=Hd (bU.keep kU (fun _ h=>.inl h) bV);have dY:=Hd bV;have o4:w5.cell? ⟨gO,4,none⟩=some (.slice Av j cv):=by rw[Ch aR];rfl
   have z4:w5.frozen? ⟨gO,4,none⟩=false:=Lib.frozen_of_heap aR 4;have dZ:Z9 (m+q<=1+20*(j+1)):=Hd (by have h1:=bA.o;have h2:=HQ.o;omega);clear hD aJ kR kB g1 g2 g3 g4 g5 g6 g7 g8 g9 ga gb gn aR bU bV kU;go_wp2_with fail;refine⟨⟨j+1,m+q,_,kJ.o,by first|rfl|rw[dI],by rw[bE.o],dZ.o,dV.o,dW.o,dX.o,dY.o⟩,?_⟩;first|exact HM.o|(rw[dI];exact HM.o)
  ·have t1:decide ((j:Int)<(ks.length:Int))=false:=by simp;omega
   rw[List.take_of_length_le (by omega)]at kE;obtain⟨Al,cl,hM,hL⟩:=kE.list aM (by rw[List.length_map];omega);obtain⟨L,bL⟩:∃L,L=ks.map (Jr n0 body2 fl):=⟨_,rfl⟩;rw[<-bL]at hL hM;subst hM;have hY:Below w3.heap.size w3 wr:=((Ad.of_below (O:=fun _=>False) aU.o).trans kD fun x h=>.inr (by have h:x=gO:=h;have h1:=kC.o;have h2:=hT.o;omega)).below (Nat.le_refl _) fun x h=>h.elim;have hV:=Ay hY (by have:=hT.o;omega) eF.o;obtain⟨o0,o1,o2,o3,o4,o5⟩:=Dw aS;have aC:Z9 (Below w.heap.size w wr):=Hd (hQ.o.trans (hY.mono hQ.o.size));have dK:=Hd hV;have dS:=Hd hL;have dT:=Hd bL;have eU:Z9 (w3.heap.size<=wr.heap.size):=Hd hY.size;clear kE aM hm kD aS hj hY hL bL kT;obtain⟨q0,q1,q2,q3,q4,q5,z0,z1,z2,z3,z4,z5⟩:=Hr hV;clear hV;go_wp2_with fail;obtain⟨r0,r1,r2,r3,r4,r5⟩:=Dw (Bt dK.o (.int .i64 14) (.string ⟨#[]⟩) (.int .i64 0) (.slice none 0 0) (.slice Al L.length cl) (.slice none 0 0));clear q0 q1 q2 q3 q4 q5 z0 z1 z2 z3 z4 z5 o0 o1 o2 o3 o4 o5;refine bodyPost_ret (v:=.tuple #[.agg #[.int .i64 14,.string ⟨#[]⟩,.int .i64 0,.slice none 0 0,.slice Al L.length cl,.slice none 0 0],.int .i64 0]) (by simp[results,Tryz.results26,go_sem,r0,r1,r2,r3,r4,r5]) rfl ?_;clear r0 r1 r2 r3 r4 r5;have bD:=Di wr (g+2) (.int .i64 14) (.string ⟨#[]⟩) (.int .i64 0) (.slice none 0 0) (.slice Al L.length cl) (.slice none 0 0);rw[<-dT.o];refine⟨[.int .i64 14,.string ⟨#[]⟩,.int .i64 0,.slice none 0 0,.slice Al L.length cl,.slice none 0 0],rfl,An.of (k:=14) (n:=0) (ps:=[]) (vs:=[]) (by decide) ⟨0,0,⟨Nat.le_refl _,Nat.zero_le _,fun _=>rfl,fun h=>absurd h (by simp)⟩,fun i hi=>absurd hi (by simp)⟩ (dS.o.but bD fun x hx=>⟨fun e=>hx.2 (.inr e),Nat.lt_of_lt_of_le hx.1 bD.size⟩) ⟨0,0,⟨Nat.le_refl _,Nat.zero_le _,fun _=>rfl,fun h=>absurd h (by simp)⟩,fun i hi=>absurd hi (by simp)⟩,((Ad.of_below (O:=fun _=>False) aC.o).trans bD fun x h=>.inr (by have h:x=g+2:=h;have:=HG.o;omega)).below (Nat.le_refl _) fun x h=>h.elim⟩
theorem Pw:∀l:List Ty,(Dg l).length<=l.length
 | []=>by simp[Dg]
 | a :: l=>by
  have h1:=Ep a (Dg l);have h2:=Pw l;rw[show Dg (a :: l)=Fz a (Dg l) from rfl,List.length_cons];omega
def My (xs:List Z8):List Z8:=(Dg (xs.map Cf)).map Ty.t
theorem Qx (xs:List Z8):(My xs).map Cf=Dg (xs.map Cf):=by
 unfold My;rw[List.map_map];refine (List.map_congr_left fun x hx=>?_).trans (List.map_id _);rw[Dj]at hx;obtain⟨y,-,rfl⟩:=List.mem_map.1 hx;rfl
theorem Yo (xs:List Z8):I1 (Bl (xs.map Cf))=(My xs).map Cf:=by
 rw[Hc,Yk,Qx]
theorem Qw {xs:List Z8}{x:Z8}(h:x∈My xs):x∈xs:=by
 obtain⟨p,hp,rfl⟩:=List.mem_map.1 h;rw[Dj]at hp;obtain⟨y,hy,rfl⟩:=List.mem_map.1 hp;exact hy
theorem Jek (xs:List Z8):(My xs).length<=xs.length:=by
 unfold My;rw[List.length_map];exact Nat.le_trans (Pw _) (by rw[List.length_map];exact Nat.le_refl _)
theorem Jbo (xs:List Z8):Bl ((My xs).map Cf)=Bl (xs.map Cf):=by
 rw[Qx];exact Vd fun x=>Dj x _
theorem Jbp (xs:List Z8) {i:Nat}(h:i+1<(My xs).length):Go.Op.bytesLess ((My xs)[i]'(by omega)).toList (My xs)[i+1].toList=true:=by
 have hA:=F5 (xs.map Cf);rw[<-Qx]at hA;have:=List.pairwise_iff_getElem.1 hA i (i+1) (by rw[List.length_map];omega) (by rw[List.length_map];exact h) (by omega);rw[List.getElem_map,List.getElem_map,Jeq,H6]at this;rw[Kr,decide_eq_true_eq];exact this
def O5 (n0:Z8) (body:Ty) (fl:Int) (ks:List Z8):Ty:=.mk 14 Bp 0 [] (ks.map (Jr n0 body fl)) []
theorem X9 {n0:Z8}{body:Ty}{fl:Int}{xs:List Z8}(hb:Ai body=true) (h0:0<=fl) (h3:fl<=3) (hx:∀x∈xs,Ca x=true):Ai (O5 n0 body fl (My xs))=true:=by
 unfold O5;rw[Aw,show Ak 14=⟨false,false,true,false,0,0,true⟩ from rfl];have hA:∀x,Ai (Bg n0 (Cf x) body)=true:=fun x=>Jaz (G1 x) _ hb;have hf:Cd (Bn ((My xs).map (Jr n0 body fl)) Ai)=true:=by
  unfold Cd;rw[Ed];intro j hj;rw[Ee,List.length_map]at hj;have hn:=hx _ (Qw (List.getElem_mem hj));rcases j with _|j
  ·rw[I0 (by rw[List.length_map];exact hj)];simp[Jr,hn,hA,h0,h3]
  ·rw[Kv (by rw[List.length_map];exact hj)];have hl:=Jbp xs hj;simp only[List.getElem_map,Jr,hn,hA,hl,decide_eq_true h0,decide_eq_true h3];rfl
 have hs:Bq 14 Bp 0 [] (Cd (Bn ((My xs).map (Jr n0 body fl)) Ai)) (Ef (Dh [] Ai))=true:=by
  unfold Bq;simpa using hf
 rw[hs];unfold Ar;simp[J1]
theorem Ry {n:Nat}:∀(l:Bv),(∀f∈l,Am f.2.2<=n)->Bm l<=n*l.length
 | [],_=>by simp[Bm]
 | a :: l,h=>by
  have h1:=Ry l fun f hf=>h f (List.mem_cons_of_mem _ hf);have h2:=h a List.mem_cons_self;rw[show Bm (a :: l)=Am a.2.2+Bm l by simp[Bm],List.length_cons,Nat.mul_succ];omega
theorem Z5 {n0:Z8}{body:Ty}{fl:Int}{ks:List Z8}(hb:Am body<=20):Am (O5 n0 body fl ks)<=1+20*ks.length:=by
 unfold O5;rw[B0];have h:=Ry (n:=20) (ks.map (Jr n0 body fl)) fun f hf=>by
  obtain⟨x,-,rfl⟩:=List.mem_map.1 hf;exact Nat.le_trans (Qn (H9 x) _) hb
 rw[List.length_map]at h;simp only[Au,Br,List.map_nil,List.sum_nil] ;omega
theorem Ym (n0:Z8) (body:Ty) (fl:Int) (xs:List Z8):Bl ((O5 n0 body fl (My xs)).fs.map fun f=>Cf f.1)=Bl (xs.map Cf):=by
 have e:(O5 n0 body fl (My xs)).fs.map (fun f=>Cf f.1)=(My xs).map Cf:=by
  unfold O5;show ((My xs).map (Jr n0 body fl)).map (fun f=>Cf f.1)=_;rw[List.map_map];rfl
 rw[e,Jbo]
