import Derived.Test.YtlpfpehegddcfaaGreatDoorMx37
namespace Go.Proofs.YtlpfpehegddcfaaGreatDoor
set_option maxRecDepth 100000
set_option maxHeartbeats 64000000
open Go.RowKit
theorem Rz {P:Nat->Prop}{w:World}{g:Nat}{t0 t1:Ty}{c0 c1:List Value}(h0:Aw P w t0 c0) (h1:Aw P w t1 c1) (hx:w.heap[g]?=some (.cells (c0++c1).toArray 26 (0,0))):Bk (fun x=>P x\/x=g) w [t0,t1] (some ⟨g,0,none⟩) 2:=
 ⟨g,0,⟨Nat.le_refl _,by show 2<=_;omega,(fun h=>by cases h),fun _=>⟨rfl,.inr rfl⟩⟩,fun i hi=>by
  have e0:=h0.six;have hc:∀j u,(c0++c1)[j]?=some u->w.cell? ⟨g,j,none⟩=some u:=fun j u hj=>by rw[Ch hx];simpa using hj
  match i,hi with
  | 0,_=>exact⟨c0,fun j u hj=>by have h9:=hc j u (by rw[List.getElem?_append_left (List.getElem?_eq_some_iff.1 hj).1];exact hj);simpa using h9,h0.weak fun x h=>.inl h⟩
  | 1,_=>exact⟨c1,fun j u hj=>by have h9:=hc (1*6+j) u (by rw[List.getElem?_append_right (by omega),show 1*6+j - c0.length=j by omega];exact hj);simpa using h9,h1.weak fun x h=>.inl h⟩⟩
theorem Tw {x:Z8}{u p0 p1:Ty}{n:Int}{s:Z8}(h1:Aj p1=true):Bh x u (.mk 20 s n [p0,p1] [] [])=.mk 20 s n [Bh x u p0,if (Bp x p1 && !Dc [s] x)=true then Bh x u p1 else p1] [] []:=by
 rw[Eu,if_neg (by simp),if_neg (by decide)];simp only[Fk,List.map_nil];have e0:(E9 ([]:Bt) x || Cz 20 s n [p0,p1] 0 x)=false:=by simp[E9,Cz]
 have e1:(E9 ([]:Bt) x || Cz 20 s n [p0,p1] (0+1) x)=decide (s=x):=by simp[E9,Cz]
 have e2:Dc [s] x=decide (s=x):=by simp[Dc]
 rw[e2];have h0:(if (E9 ([]:Bt) x || Cz 20 s n [p0,p1] 0 x)=true then p0 else Bh x u p0)=Bh x u p0:=if_neg (by rw[e0];decide);have h2:(if (E9 ([]:Bt) x || Cz 20 s n [p0,p1] (0+1) x)=true then p1 else Bh x u p1)=if (Bp x p1 && !decide (s=x))=true then Bh x u p1 else p1:=by
  rw[e1];by_cases h:s=x
  ·simp[h]
  ·rw[decide_eq_false h,if_neg (by decide)]
   cases hf:Bp x p1 with
   | true=>rfl
   | false=>rw[Ec x u p1 h1 hf];rfl
 rw[h0,h2]
theorem Ox {Cc:Prop}{n0:Z8}{u:Ty}{K Z:Nat->Prop}{wk sb nd:Nat}{w:World}{bp op a:Nat}{m:Option Nat}{n:Int}{s:Z8}{p0 p1:Ty}(ha:De K w (.mk 20 s n [p0,p1] [] []) bp op) (eG:bp≠sb/\bp≠wk) (hK:∀x,K x->x<w.heap.size/\x≠sb/\x≠wk) (hE:Cp wk sb n0 w m true) (hS:Ce K Z w sb u nd) (dH:Z sb) (cE:Z wk) (dG:∀x,Z x->x<w.heap.size) (dP:w.heap[wk]?=some (.cells #[.int .i64 (a:Int)] 85 (0,0))) (dR:wk≠sb) (eO:a+Am (.mk 20 s n [p0,p1] [] [])<=4096) (cF:Aj (.mk 20 s n [p0,p1] [] [])=true/\Dk (.mk 20 s n [p0,p1] [] [])=true) (eP:(nd=1/\Am u=1/\Cc)\/Bp n0 (.mk 20 s n [p0,p1] [] [])=false) (eH:Aj u=true/\Dk u=true/\Am u<=5000) (bF:Bp n0 p1=true->Dc [s] n0=false->∀x∈[s],Bp x u=false) (eI:true=true->(nd=1/\Am u=1/\Cc)\/Bp n0 p0=false) (hn1':(Bp n0 p1 && !Dc [s] n0)=true->(nd=1/\Am u=1/\Cc)\/Bp n0 p1=false) (ih:Jg Cc n0 u p0/\Jg Cc n0 u p1) :
  Calls Tryz.prog 43 #[.pointer (some ⟨wk,0,none⟩),.pointer (some ⟨bp,op,none⟩),.map m] w (Ci n0 u K Z wk sb nd w true a (.mk 20 s n [p0,p1] [] [])):=by
 have eN:Am (.mk 20 s n [p0,p1] [] [])=1+(Am p0+Am p1):=by rw[Bu];show 1+(Au [p0,p1]+(Bm []+Bl []))=_;unfold Au Bm Bl;simp
 have aF:Aj p1=true:=D9 cF.1 p1 (show p1∈[p0,p1] by simp);have bG:Aj p0=true:=D9 cF.1 p0 (show p0∈[p0,p1] by simp);have dO:=(Fz cF.2).2.2.1;have bP:=dO p0 (by simp);have bQ:=dO p1 (by simp);obtain⟨PO,dD⟩:∃PO:Ending->World->Prop,PO=Ci n0 u K Z wk sb nd w true a (.mk 20 s n [p0,p1] [] []):=⟨_,rfl⟩;have aQ:Z9 (∀e w',(∃rs:List Value,e=.returned (.agg rs.toArray)/\Aw (fun x=>K x\/w.heap.size<=x) w' (Bh n0 u (.mk 20 s n [p0,p1] [] [])) rs/\w'.heap[wk]?=some (.cells #[.int .i64 ((a+Am (.mk 20 s n [p0,p1] [] []):Nat):Int)] 85 (0,0))/\Ce K Z w' sb u nd/\Ad (fun x=>x=sb\/x=wk) w w')->PO e w'):=Hd fun e w' h=>by
  rw[dD];unfold Ci;rw[if_pos rfl];exact h
 rw[<-dD];have dL:wk<w.heap.size:=(Array.getElem?_eq_some_iff.1 dP).1;have eK:sb<w.heap.size:=dG sb dH;refine Ia ha eG hK ⟨dL,eK⟩ fun A c B d C e w1 g h=>?_;obtain⟨HX,HY,aK,HS1,HG,HW1,HP,dV,eC,cW,cN,eR⟩:=h;have cJ:=Hd (Bj aK.o dL dP);have hF:=Hd hK;have aM:=Hd dR;have eS:=Hd cE;have HE:=Hd hE;have dA:=hE.but (Ad.of_below (O:=fun _=>False) aK.o) fun _ h=>h.elim;obtain⟨z,hz,eL⟩:=dA.len;have f1:¬ z=0:=of_decide_eq_false eL;have lk:=dA.look s (Nat.le_trans cW.o (by decide));obtain⟨n1,eJ⟩:∃n1,n1=a+1:=⟨_,rfl⟩;obtain⟨w2,bR⟩:∃x,x=w1.setCell ⟨wk,0,none⟩ (.int .i64 ((a:Int)+1)):=⟨_,rfl⟩;have aC:Ad (fun x=>x=wk) w1 w2:=by rw[bR];exact (Ad.refl (fun x=>x=wk) w1).put1 0 _
 have dJ:w2.heap[wk]?=some (.cells #[.int .i64 (n1:Int)] 85 (0,0)):=by rw[bR,eJ];exact Cw cJ.o 0 _
 obtain⟨g2,cG⟩:∃x,x=w2.heap.size:=⟨_,rfl⟩;have dN:w2.heap.size=w1.heap.size:=by rw[bR];simp
 obtain⟨w3,bS⟩:∃x,x=w2.alloc (.cells #[.int .i64 20,.string s,.int .i64 n,.slice A 2 c,.slice B 0 d,.slice C 0 e] 26):=⟨_,rfl⟩;have dI:Below w2.heap.size w2 w3:=by rw[bS];exact (Below.refl _ _).alloc (Nat.le_refl _) _
 have kK:Ad (fun x=>x=wk) w1 w3:=aC.then dI;have kJ:Ad (fun x=>x=wk) w w3:=(Ad.of_below (O:=fun x=>x=wk) aK.o).trans kK fun x h=>.inl h;have aB:Ad (fun x=>x=sb\/x=wk) w1 w3:=kK.mono fun x h=>.inr h;have bZ:Z9 (w3.heap[wk]?=some (.cells #[.int .i64 (n1:Int)] 85 (0,0))):=Hd (Bj dI (Array.getElem?_eq_some_iff.1 dJ).1 dJ);have dY:Z9 (Ce K (fun x=>Z x\/x=g\/x=g2) w3 sb u nd):=Hd ((hS.more fun x h=>h.elim .inl fun e=>.inr (by have h1:=HG.o;have h2:=HS1.o;omega)).but kJ (fun h=>dR h.symm) (fun x h=>.inl (.inl (h ▸ cE))) fun x hx=>(hK x hx).2.2);have eQ:Z9 (Cp wk sb n0 w3 m true):=Hd (hE.but kJ fun x h=>.inl h);have hN:Z9 (w.heap.size<w3.heap.size/\g<w3.heap.size):=Hd (by have h1:=HS1.o;have h2:=HG.o;have h3:=aB.size;omega);have HZ:Z9 ((Z sb/\Z wk)/\∀x,Z x->x<w.heap.size):=Hd ⟨⟨dH,cE⟩,dG⟩;have eD:=Hd bR;have dU:Z9 (Ad (fun x=>x=sb\/x=wk) w1 w2):=Hd (aC.mono fun x h=>.inr h);have eE:=Hd bS;have hH:=Hd aB;have c0:=Ch cJ.o 0;have c1:=Lib.frozen_of_heap cJ.o 0;simp only[List.getElem?_toArray,List.getElem?_cons_zero]at c0;have t1:decide ((4096:Int)<(a:Int))=false:=decide_eq_false (by omega);have t1':¬ (4096:Int)<(a:Int):=by omega
 have t1'':¬ 4096<a:=by omega
 obtain⟨x0,x1,x2,x3,x4,x5⟩:=HX.o w1 (Ad.refl _ _);have bO:w3.heap.size=g2+1:=by rw[bS,cG];simp
 have cC:Z9 (w3.heap[g2]?=some (.cells #[.int .i64 20,.string s,.int .i64 n,.slice A 2 c,.slice B 0 d,.slice C 0 e] 26 (0,0))):=Hd (by rw[bS,cG];exact heap_alloc_new w2 _);have dX:=Hd cG;have hZ:=Hd bO;have hI:Z9 (w1.heap.size<=g2/\g<g2):=Hd (by have h1:=HS1.o;omega);have hD:Z9 (¬ (g2=sb\/g2=wk)):=Hd (by have h1:=cN.o;have h2:=hI.o;omega);have cA:Z9 (∀wx,Ad (fun x=>x=sb\/x=wk) w wx->Cp wk sb n0 wx m true):=Hd fun wx hx=>hE.but hx fun x h=>h.elim (fun e=>.inr (.inl e)) .inl;obtain⟨T0,dE⟩:∃T,T=Bh n0 u p0:=⟨_,rfl⟩;obtain⟨T1,dF⟩:∃T,T=if (Bp n0 p1 && !Dc [s] n0)=true then Bh n0 u p1 else p1:=⟨_,rfl⟩
 have dZ:Z9 (Bh n0 u (.mk 20 s n [p0,p1] [] [])=.mk 20 s n [T0,T1] [] []):=Hd (by rw[dE,dF];exact Tw aF);have eA:=Hd dE;have hX:Z9 (∀wx,Ad (fun x=>x=sb\/x=wk) w1 wx->Ad (fun x=>x=sb\/x=wk) w wx):=Hd fun wx hx=>(Ad.of_below (O:=(fun x=>x=sb\/x=wk)) aK.o).trans hx fun x h=>.inl h;obtain⟨tb,tq,hA,dB,-⟩:=(HP.o w1 (Ad.refl _ _)).at (Nat.succ_pos _:0 < [p0,p1].length);subst hA;have aT:Z9 (K tb/\tb≠sb/\tb≠wk):=Hd ⟨dB,(hK tb dB).2⟩;have dC:∀wx,Ad (fun x=>x=sb\/x=wk) w1 wx->De K wx p0 tb tq/\De K wx p1 tb (tq+6):=fun wx hx=>by
  obtain⟨tb',tq',hA,-,eF⟩:=(HP.o wx hx).at (Nat.succ_pos _:0 < [p0,p1].length);injection hA with hA
  injection hA with e1 e2 _
  subst e1;subst e2;exact⟨eF 0 (Nat.succ_pos _),eF 1 (Nat.lt_succ_self _)⟩
 have cD:=Hd dC;have kC:Z9 (Aj p0=true/\Aj p1=true/\Dk p0=true/\Dk p1=true):=Hd ⟨bG,aF,bP,bQ⟩;have dW:=Hd eH;have aP:=Hd bF;have aR:=Hd eI;have aS:=Hd hn1';have cB:=Hd ih;have HCN:Z9 (n1+Am p0+Am p1=a+Am (.mk 20 s n [p0,p1] [] [])):=Hd (by omega);have aL:Z9 (n1+Am p0+Am p1<=4096):=Hd (by omega);have eB:=Hd dF;obtain⟨eT,hO,cH⟩:=(dC w1 (Ad.refl _ _)).2;obtain⟨k1,s1,nn1,kM,kL,kN⟩:=p1;obtain⟨A1,cc1,B1,d1,C1,e1,rfl,-⟩:=cH.inv;simp only[Az]at hO cH;have cQ:Z9 (∀wx,Ad (fun x=>x=sb\/x=wk) w1 wx->(wx.cell? ⟨tb,tq+6,none⟩=some (.int .i64 k1)/\wx.cell? ⟨tb,tq+6+1,none⟩=some (.string s1)/\wx.cell? ⟨tb,tq+6+2,none⟩=some (.int .i64 nn1)/\wx.cell? ⟨tb,tq+6+3,none⟩=some (.slice A1 kM.length cc1)/\wx.cell? ⟨tb,tq+6+4,none⟩=some (.slice B1 kL.length d1)/\wx.cell? ⟨tb,tq+6+5,none⟩=some (.slice C1 kN.length e1))/\Aw K wx (.mk k1 s1 nn1 kM kL kN) [.int .i64 k1,.string s1,.int .i64 nn1,.slice A1 kM.length cc1,.slice B1 kL.length d1,.slice C1 kN.length e1]):=Hd fun wx hx=>by
  have aN:¬ (tb=sb\/tb=wk):=by have:=aT.o;omega
  refine⟨⟨hx.cell aN (hO 0 _ rfl),hx.cell aN (hO 1 _ rfl),hx.cell aN (hO 2 _ rfl),hx.cell aN (hO 3 _ rfl),hx.cell aN (hO 4 _ rfl),hx.cell aN (hO 5 _ rfl)⟩,cH.but hx fun x hx=>⟨fun h=>by have:=hF.o x hx;exact h.elim this.2.1 this.2.2,hx⟩⟩
 have hY:Z9 (∀wx,Ad (fun x=>x=sb\/x=wk) w1 wx->wx.cell? ⟨bp,op+1,none⟩=some (.string s)/\wx.cell? ⟨bp,op+3,none⟩=some (.slice (some ⟨tb,tq,none⟩) 2 c)/\wx.cell? ⟨tb,tq+6,none⟩=some (.int .i64 k1)/\wx.cell? ⟨tb,tq+6+1,none⟩=some (.string s1)/\wx.cell? ⟨tb,tq+6+2,none⟩=some (.int .i64 nn1)/\wx.cell? ⟨tb,tq+6+3,none⟩=some (.slice A1 kM.length cc1)/\wx.cell? ⟨tb,tq+6+4,none⟩=some (.slice B1 kL.length d1)/\wx.cell? ⟨tb,tq+6+5,none⟩=some (.slice C1 kN.length e1)):=Hd fun wx hx=>by
  have h:=HX.o wx hx;exact⟨h.2.1,h.2.2.2.1,(cQ.o wx hx).1⟩
 clear ha eG hK hE hS dH cE dG dP dR eO dL eK dD eL dA cF eI hn1' ih eN eJ bR aC dJ bS dI kK kJ aB dN bO cG eH bF dE dF dB dC hO cH bG aF dO bP bQ eP;go_enter Tryz.func43,Tryz.ntmps43;go_upto_region 1 with fail
 rw[<-HW1.o,<-HG.o];by_cases hq:n0=s
 ·rw[show (true && decide (n0=s))=true by simp[hq],if_pos rfl]at lk;go_upto_region 11 with fail
  clear c0 c1 lk hz x0 x1 x2 x3 x4 x5;rw[<-eD.o];obtain⟨x0,x1,x2,x3,x4,x5⟩:=HX.o w2 dU.o;go_upto_region 12 with fail
  clear x0 x1 x2 x3 x4 x5;rw[<-eE.o,<-dX.o];obtain⟨x0,x1,x2,x3,x4,x5⟩:=HX.o w3 hH.o;go_upto_region 26 with fail
  clear x0 x1 x2 x3 x4 x5;refine wp_region_held_drew (S:=(fun w'=>w'.cell? ⟨bp,op+1,none⟩=some (.string s)/\w'.cell? ⟨bp,op+3,none⟩=some (.slice (some ⟨tb,tq,none⟩) 2 c)/\w'.cell? ⟨tb,tq+6,none⟩=some (.int .i64 k1)/\w'.cell? ⟨tb,tq+6+1,none⟩=some (.string s1)/\w'.cell? ⟨tb,tq+6+2,none⟩=some (.int .i64 nn1)/\w'.cell? ⟨tb,tq+6+3,none⟩=some (.slice A1 kM.length cc1)/\w'.cell? ⟨tb,tq+6+4,none⟩=some (.slice B1 kL.length d1)/\w'.cell? ⟨tb,tq+6+5,none⟩=some (.slice C1 kN.length e1))) (by kernel_rfl) (hY.o _ (hH.o.then (Below.refl _ _).drew)) (fun hB=>?_);refine Ab.s [0,1,2,3,5,6,7,8,9,10,11] ?_
  iterate 11 (refine Ab.k (so rfl) hB ?_;try simp only[Act.put,Bd,Be,Bf])
  refine Ab.d ?_;refine wpAnyH_ready (rs:=[4]) (by kernel_rfl) (by simp) ?_;refine AllReadyH.cons (sd (some 145) rfl) (fun Kx hK=>?_) AllReadyH.nil;go_simp;generalize kZ:World.drew (World.alloc w3 (.cells #[.string s] 9))=w4;have kB:Below w3.heap.size w3 w4:=by rw[<-kZ];exact ((Below.refl _ _).alloc (Nat.le_refl _) _).drew
  have kW:w4.heap[w3.heap.size]?=some (.cells #[.string s] 9 (0,0)):=by rw[<-kZ];exact heap_alloc_new w3 _
  obtain⟨nb,aG⟩:∃nb,nb=w3.heap.size:=⟨_,rfl⟩;rw[<-aG]at kW ⊢;have cO:=Hd aG;have kF:=Hd kB;have cY:=Hd kW;have kA:Ad (fun x=>x=sb\/x=wk) w w4:=(hX.o w3 hH.o).then kB;have bH:Cg w4 [s] (some ⟨nb,0,none⟩):=⟨nb,0,fun _=>rfl,by show 1<=_;omega,fun i hi=>by
   obtain rfl:i=0:=by simp at hi;omega
   rw[Ch kW];rfl⟩
  have hV:=(cQ.o w4 (hH.o.then kB)).2;have bL:=dY.o.but (Ad.of_below (O:=fun _=>False) kB) (fun h=>h) (fun x h=>h.elim) fun _ _ h=>h;have aV:=Jp (K:=K) (Kt:=K) (c:=1) bH (fun b o e=>by injection e with e;injection e with e _ _;have h1:=hN.o;have h2:=HZ.o.2 sb HZ.o.1.1;omega) (Nat.succ_pos _) hV (fun x hx=>Nat.lt_of_lt_of_le (hF.o x hx).1 kA.size) (fun x hx=>⟨Nat.lt_of_lt_of_le (hF.o x hx).1 kA.size,(hF.o x hx).2⟩) (cA.o w4 kA) bL (.inl HZ.o.1.1) (fun x h=>by
   have h1:=kB.size;have h2:=hN.o;have h3:=hZ.o;rcases h with h|h|h
   ·have:=HZ.o.2 x h;omega
   ·omega
   ·omega) (by have h1:=HZ.o.2 wk HZ.o.1.2;have h2:=kA.size;omega) ⟨kC.o.2.1,kC.o.2.2.2,by have:=aL.o;omega⟩ dW.o (fun x hx=>Nat.le_trans (Lt _ _ hV x (Rl x _ hx)) (by decide)) aP.o
  have KE:=Hd aV;have eM:=Hd kA;clear kZ kB kW aG kA bH hV bL aV;refine hK.out _ _ (hY.o _ (hH.o.then kF.o)) (fun hB=>?_);clear hK Kx;try simp only[Act.put,Bd,Be,Bf]
  refine wpAnyH_ready (rs:=[12]) (by kernel_rfl) (by simp) ?_;refine AllReadyH.cons (sd (some 153) rfl) (fun Kx hK=>?_) AllReadyH.nil;go_simp;refine KE.o.mono ?_;rintro r w5 ⟨m',rfl,aY,aZ,aD,bI⟩;have cL:=Hd aY;have cT:=Hd aZ;have kX:=Hd aD;have kD:Z9 (Ad (fun x=>x=sb\/x=wk) w1 w5):=Hd ((hH.o.then kF.o).trans aD fun x h=>.inl (.inl h));clear aY aZ aD KE;go_wp2_with fail;refine hK.out _ _ (hY.o _ kD.o) (fun hB=>?_);clear hK Kx;try simp only[Act.put,Bd,Be,Bf]
  refine Ab.s [13,14,15,16,17] ?_
  iterate 5 (refine Ab.k (so rfl) hB ?_;try simp only[Act.put,Bd,Be,Bf])
  refine Ab.d ?_;refine wpAnyH_done (by kernel_rfl) ?_ _;clear hB;have aI:=(kX.o.up (by have h1:=hD.o;show ¬ g2=sb;omega) (Bj kF.o (Array.getElem?_eq_some_iff.1 cC.o).1 cC.o));have bJ:=kX.o.up (by have h1:=cO.o;have h2:=HZ.o.2 sb HZ.o.1.1;have h3:=hN.o;show ¬ nb=sb;omega) cY.o;have bC:=kX.o.up (fun e=>aM.o e) (Bj kF.o (Array.getElem?_eq_some_iff.1 bZ.o).1 bZ.o);obtain⟨w6,kU⟩:∃x,x=w5.setCell ⟨g2,1,none⟩ (.string s):=⟨_,rfl⟩;have hJ:Ad (fun x=>x=g2) w5 w6:=by rw[kU];exact (Ad.refl (fun x=>x=g2) w5).put1 1 _
  have bT:w6.heap[g2]?=some (.cells #[.int .i64 20,.string s,.int .i64 n,.slice (some ⟨tb,tq,none⟩) 2 c,.slice B 0 d,.slice C 0 e] 26 (0,0)):=by rw[kU];exact Cw aI 1 _
  have kP:=Hd bT;have cK:=Hd (hJ.up (fun e=>hD.o (.inr e.symm)) bC);have cU:Z9 (Ce K (fun x=>Z x\/x=g\/x=g2) w6 sb u nd):=Hd (cT.o.but hJ (fun e=>hD.o (.inl e.symm)) (fun x h=>.inl (.inr (.inr h))) fun x hx e=>by have h1:=(hF.o x hx).1;have h2:=hI.o;have h3:=HG.o;have e:x=g2:=e;omega);have hC:Z9 (Ad (fun x=>x=sb\/x=wk) w1 w6):=Hd (kD.o.trans hJ fun x h=>.inr (by have h1:=hI.o;have e:x=g2:=h;omega));have cM:Z9 (∀wx,Ad (fun x=>x=sb\/x=wk) w6 wx->Cp wk sb n0 wx m' (Bp n0 (.mk k1 s1 nn1 kM kL kN) && !Dc [s] n0)):=Hd fun wx hx=>cL.o.butM ((hJ.mono (O':=fun x=>x=g2\/x=sb\/x=wk) fun x h=>.inl h).trans hx fun x h=>.inl (.inr h)) fun x h=>by
   rcases h with h|h|h
   ·exact .inr (.inr (.inr fun e=>by have h1:=bI x e;have h2:=kF.o.size;have h3:=hZ.o;omega))
   ·exact .inr (.inl h)
   ·exact .inl h
  have cX:=Hd kU;have y0:=Ch bJ 0;simp only[List.getElem?_toArray,List.getElem?_cons_zero]at y0;obtain⟨q0,q1,q2,q3,q4,q5,z0,z1,z2,z3,z4,z5⟩:=Je aI;clear aI bJ bC kU hJ bT bI;go_upto_region 28 with fail
  rw[<-cX.o];clear y0 q0 q1 q2 q3 q4 q5 z0 z1 z2 z3 z4 z5;have cI:Z9 (Ad (fun x=>x=sb\/x=wk) w w6):=Hd (hX.o w6 hC.o);have kI:Z9 (∀wx,Ad (fun x=>x=sb\/x=wk) w6 wx->∀x,(Z x\/x=g\/x=g2)->x<wx.heap.size):=Hd fun wx hx x h=>by
   have h1:=(hX.o w6 hC.o).size;have h2:=hx.size;have h3:=hN.o;have h4:=(Array.getElem?_eq_some_iff.1 kP.o).1;have h5:=hI.o;rcases h with h|h|h
   ·have:=HZ.o.2 x h;omega
   ·omega
   ·omega
  have kS:Ad (fun x=>x=sb\/x=wk) w1 w6.drew:=hC.o.then (Below.refl _ _).drew;have hU:Ad (fun x=>x=sb\/x=wk) w6 w6.drew:=(Ad.refl _ _).then (Below.refl _ _).drew;have kQ:=cB.o.1 K (fun x=>Z x\/x=g\/x=g2) wk sb nd w6.drew tb tq m true n1 (cD.o _ kS).1 aT.o.2 (fun x hx=>⟨Nat.lt_of_lt_of_le (hF.o x hx).1 (hX.o _ kS).size,(hF.o x hx).2⟩) (cA.o _ (hX.o _ kS)) (cU.o.but (Ad.of_below (O:=fun _=>False) (Below.refl _ _).drew) (fun h=>h) (fun x h=>h.elim) fun _ _ h=>h) (.inl HZ.o.1.1) (.inl HZ.o.1.2) (kI.o _ hU) cK.o aM.o (by have:=aL.o;omega) ⟨kC.o.1,kC.o.2.2.1⟩ (fun _=>aR.o trivial);unfold Ci at kQ;rw[if_pos rfl]at kQ;have KO:=Hd kQ;have hL:Z9 (∀wx,Ad (fun x=>x=sb\/x=wk) w6 wx->wx.cell? ⟨bp,op+3,none⟩=some (.slice (some ⟨tb,tq,none⟩) 2 c)/\wx.cell? ⟨g2,1,none⟩=some (.string s)):=Hd fun wx hx=>⟨(HX.o wx (hC.o.trans hx fun x h=>.inl h)).2.2.2.1,(D4 (hx.up hD.o kP.o)).2.1⟩;clear kS kQ;refine wp_region_held_drew (S:=(fun w'=>w'.cell? ⟨bp,op+3,none⟩=some (.slice (some ⟨tb,tq,none⟩) 2 c)/\w'.cell? ⟨g2,1,none⟩=some (.string s))) (by kernel_rfl) (hL.o _ hU) (fun hB=>?_);clear hU;refine Ab.s [0,1,2,3,4,5,6,8,9,10,11,12,13,14] ?_
  iterate 14 (refine Ab.k (so rfl) hB ?_;try simp only[Act.put,Bd,Be,Bf])
  refine Ab.d ?_;refine wpAnyH_ready (rs:=[7]) (by kernel_rfl) (by simp) ?_;refine AllReadyH.cons (sd (some 167) rfl) (fun Kx hK=>?_) AllReadyH.nil;go_simp;refine KO.o.mono ?_;rintro r w7 ⟨dS,rfl,hW,bD,bM,bA⟩;have hG:Z9 (Ad (fun x=>x=sb\/x=wk) w6 w7):=Hd (Ad.from (Below.refl w6.heap.size w6).drew bA);have kE:Z9 (Ad (fun x=>x=sb\/x=wk) w1 w7):=Hd (hC.o.trans hG.o fun x h=>.inl h);have kR:=cB.o.2 K (fun x=>Z x\/x=g\/x=g2) wk sb nd w7 tb (tq+6) m' (Bp n0 (.mk k1 s1 nn1 kM kL kN) && !Dc [s] n0) (n1+Am p0) (cD.o _ kE.o).2 aT.o.2 (fun x hx=>⟨Nat.lt_of_lt_of_le (hF.o x hx).1 (hX.o _ kE.o).size,(hF.o x hx).2⟩) (cM.o _ hG.o) bM (.inl HZ.o.1.1) (.inl HZ.o.1.2) (kI.o _ hG.o) bD aM.o (by have:=aL.o;omega) ⟨kC.o.2.1,kC.o.2.2.2⟩ aS.o;unfold Ci at kR;have kY:=Hd hW;clear hW bD bM bA KO;rw[<-eB.o]at kR;have KO:=Hd kR;clear kR;go_wp2_with fail;refine hK.out _ _ (hL.o _ hG.o) (fun hB=>?_);clear hK Kx;try simp only[Act.put,Bd,Be,Bf]
  refine wpAnyH_ready (rs:=[15]) (by kernel_rfl) (by simp) ?_;refine AllReadyH.cons (sd (some 175) rfl) (fun Kx hK=>?_) AllReadyH.nil;go_simp;refine KO.o.mono ?_;rintro r w8 ⟨dT,rfl,bK,bE,bN,aE⟩;have hP:Z9 (Ad (fun x=>x=sb\/x=wk) w6 w8):=Hd (hG.o.trans aE fun x h=>.inl h);have hW:Aw (fun x=>K x\/w6.heap.size<=x) w8 T0 dS:=by
   rw[eA.o];exact kY.o.but aE fun x hx=>⟨fun h=>by
    have h1:=(hX.o w6 hC.o).size;have h2:=HZ.o.2 sb HZ.o.1.1;have h3:=HZ.o.2 wk HZ.o.1.2;have h4:w6.drew.heap.size=w6.heap.size:=rfl;rcases hx with hx|hx
    ·exact h.elim (hF.o x hx).2.1 (hF.o x hx).2.2
    ·rcases h with h|h <;> omega,hx⟩
  have hM:Aw (fun x=>K x\/w6.heap.size<=x) w8 T1 dT:=bK.weak fun x hx=>hx.imp id fun h=>by have:=hG.o.size;omega
  have aO:=Hd bE;have cV:=Hd bN;clear bK bE bN aE KO;obtain⟨k7,s7,n7,bV,aW,bX⟩:=T0;obtain⟨k8,s8,n8,bW,aX,bY⟩:=T1;obtain⟨A7,c7,B7,d7,C7,e7,rfl,-⟩:=hW.inv;obtain⟨A8,c8,B8,d8,C8,e8,rfl,-⟩:=hM.inv;simp only[Az]at hW hM ⊢;have kY:=Hd hW;have cR:=Hd hM;clear hW hM;go_wp2_with fail;refine hK.out _ _ (hL.o _ hP.o) (fun hB=>?_);clear hK Kx;try simp only[Act.put,Bd,Be,Bf]
  refine wpAnyH_ready (rs:=[16]) (by kernel_rfl) (by simp) ?_;refine AllReadyH.cons (sd (some 176) rfl) (fun Kx hK=>?_) AllReadyH.nil;go_simp;generalize aA:World.alloc w8 (.cells #[.int .i64 k7,.string s7,.int .i64 n7,.slice A7 bV.length c7,.slice B7 aW.length d7,.slice C7 bX.length e7,.int .i64 k8,.string s8,.int .i64 n8,.slice A8 bW.length c8,.slice B8 aX.length d8,.slice C8 bY.length e8] 26)=w9;have bB:Below w8.heap.size w8 w9:=by rw[<-aA];exact (Below.refl _ _).alloc (Nat.le_refl _) _
  have aJ:w9.heap[w8.heap.size]?=some (.cells #[.int .i64 k7,.string s7,.int .i64 n7,.slice A7 bV.length c7,.slice B7 aW.length d7,.slice C7 bX.length e7,.int .i64 k8,.string s8,.int .i64 n8,.slice A8 bW.length c8,.slice B8 aX.length d8,.slice C8 bY.length e8] 26 (0,0)):=by rw[<-aA];exact heap_alloc_new w8 _
  obtain⟨rb,aH⟩:∃rb,rb=w8.heap.size:=⟨_,rfl⟩;rw[<-aH]at aJ ⊢;have cS:=Hd aH;have kG:=Hd bB;have cZ:=Hd aJ;clear aA bB aJ aH;have hQ:Z9 (Ad (fun x=>x=sb\/x=wk) w6 w9):=Hd (hP.o.then kG.o);have kT:=hQ.o.up hD.o kP.o;have cP:=Hd kT;have y3:=Ch kT 3;have v3:=Lib.frozen_of_heap kT 3;simp only[List.getElem?_toArray,List.getElem?_cons_zero,List.getElem?_cons_succ]at y3;clear kT;refine hK.out _ _ (hL.o _ hQ.o) (fun hB=>?_);clear hK Kx;try simp only[Act.put,Bd,Be,Bf]
  refine Ab.s [17] ?_;refine Ab.k (so rfl) hB ?_;try simp only[Act.put,Bd,Be,Bf]
  refine Ab.d ?_;refine wpAnyH_ready (rs:=[18]) (by kernel_rfl) (by simp) ?_;refine AllReadyH.cons (sd none rfl) (fun Kx hK=>?_) AllReadyH.nil;go_simp;clear y3 v3;obtain⟨wq,kV⟩:∃x,x=w9.setCell ⟨g2,3,none⟩ (.slice (some ⟨rb,0,none⟩) 2 2):=⟨_,rfl⟩;have hT:Ad (fun x=>x=g2) w9 wq:=by rw[kV];exact (Ad.refl (fun x=>x=g2) w9).put1 3 _
  have bU:wq.heap[g2]?=some (.cells #[.int .i64 20,.string s,.int .i64 n,(.slice (some ⟨rb,0,none⟩) 2 2),.slice B 0 d,.slice C 0 e] 26 (0,0)):=by rw[kV];exact Cw cP.o 3 _
  have hR:=Hd hT;have kH:Z9 (Ad (fun x=>x=sb\/x=wk) w1 wq):=Hd (((hC.o.trans hQ.o fun x h=>.inl h)).trans hT fun x h=>.inr (by have h1:=hI.o;have e:x=g2:=h;omega));rw[<-kV];have aU:=Hd bU;clear kV hT bU;refine hK.out _ _ ⟨(HX.o wq kH.o).2.2.2.1,(D4 aU.o).2.1⟩ (fun hB=>?_);clear hK Kx;try simp only[Act.put,Bd,Be,Bf]
  refine wpAnyH_done (by kernel_rfl) ?_ _;clear hB;have rbx:=HY.o _ kH.o;obtain⟨x0,x1,x2,x3,x4,x5⟩:=D4 aU.o;obtain⟨q0,q1,q2,q3,q4,q5,z0,z1,z2,z3,z4,z5⟩:=Je rbx;have RBX:=Hd rbx;clear rbx;go_wp2_with fail;obtain⟨r0,r1,r2,r3,r4,r5⟩:=D4 (Cd RBX.o (.int .i64 20) (.string s) (.int .i64 n) ((.slice (some ⟨rb,0,none⟩) 2 2)) (.slice B 0 d) (.slice C 0 e));clear q0 q1 q2 q3 q4 q5 z0 z1 z2 z3 z4 z5;refine bodyPost_ret (v:=.agg #[.int .i64 20,.string s,.int .i64 n,(.slice (some ⟨rb,0,none⟩) 2 2),.slice B 0 d,.slice C 0 e]) (by simp[results,Tryz.results43,go_sem,r0,r1,r2,r3,r4,r5]) rfl ?_;clear r0 r1 r2 r3 r4 r5;have kO:=Cr wq g (.int .i64 20) (.string s) (.int .i64 n) ((.slice (some ⟨rb,0,none⟩) 2 2)) (.slice B 0 d) (.slice C 0 e);have h1:=HCN.o;have h2:=cN.o;have h3:=HG.o;have h4:=hI.o;have h5:=hZ.o;have h6:=cS.o;have h7:=cI.o.size;have h8:=hP.o.size;have dM:=HZ.o.2 sb HZ.o.1.1;have dQ:=HZ.o.2 wk HZ.o.1.2;have h9:=(Array.getElem?_eq_some_iff.1 kP.o).1;refine aQ.o _ _ ⟨[.int .i64 20,.string s,.int .i64 n,(.slice (some ⟨rb,0,none⟩) 2 2),.slice B 0 d,.slice C 0 e],rfl,?_,by rw[<-h1];exact kO.up (by show ¬ wk=g;omega) (hR.o.up (fun e=>hD.o (.inr e.symm)) (Bj kG.o (Array.getElem?_eq_some_iff.1 aO.o).1 aO.o)),?_,Dx aK.o kH.o HG.o kO⟩
  ·rw[dZ.o];obtain⟨b2,o2,r2,-⟩:=dV.o _ kH.o;obtain⟨b3,o3,r3,-⟩:=eC.o _ kH.o;have hl:=Rz (kY.o.later kG.o) (cR.o.later kG.o) cZ.o;have dK:=(hl.but (K':=fun x=>(K x\/w6.heap.size<=x)\/x=rb) hR.o fun x hx=>⟨fun e=>by
    have e:x=g2:=e;rcases hx with (hx|hx)|hx
    ·have:=(hF.o x hx).1;omega
    ·omega
    ·omega,hx⟩).but (K':=fun x=>K x\/w.heap.size<=x) kO fun x hx=>⟨fun e=>by
    have e:x=g:=e;rcases hx with (hx|hx)|hx
    ·have:=(hF.o x hx).1;omega
    ·omega
    ·omega,by
    rcases hx with (hx|hx)|hx
    ·exact .inl hx
    ·exact .inr (by omega)
    ·exact .inr (by omega)⟩
   have hr:=Aw.of (k:=20) (n:=n) (fs:=[]) (vs:=[]) (A':=B) (c':=d) (A'':=C) (c'':=e) cW.o dK ⟨b2,o2,⟨r2.le,r2.big,r2.none,fun h=>absurd h (by simp)⟩,fun i h=>absurd h (by simp)⟩ ⟨b3,o3,⟨r3.le,r3.big,r3.none,fun h=>absurd h (by simp)⟩,fun i h=>absurd h (by simp)⟩;exact hr
  ·have h6':=(cV.o.but (Ad.of_below (O:=fun _=>False) kG.o) (fun h=>h) (fun x h=>h.elim) fun _ _ h=>h).but hR.o (fun e=>hD.o (.inl e.symm)) (fun x h=>.inl (.inr (.inr h))) fun x hx e=>by have h6:=(hF.o x hx).1;have e:x=g2:=e;omega
   exact (h6'.but kO (fun e=>by have e:sb=g:=e;omega) (fun x h=>.inl (.inr (.inl h))) fun x hx e=>by have h6:=(hF.o x hx).1;have e:x=g:=e;omega).more fun x h=>.inl (.inl h)
 ·rw[show (true && decide (n0=s))=false by simp[hq],if_neg (by decide)]at lk;go_upto_region 11 with fail
  clear c0 c1 lk hz x0 x1 x2 x3 x4 x5;rw[<-eD.o];obtain⟨x0,x1,x2,x3,x4,x5⟩:=HX.o w2 dU.o;go_upto_region 12 with fail
  clear x0 x1 x2 x3 x4 x5;rw[<-eE.o,<-dX.o];obtain⟨x0,x1,x2,x3,x4,x5⟩:=HX.o w3 hH.o;go_upto_region 26 with fail
  clear x0 x1 x2 x3 x4 x5;refine wp_region_held_drew (S:=(fun w'=>w'.cell? ⟨bp,op+1,none⟩=some (.string s)/\w'.cell? ⟨bp,op+3,none⟩=some (.slice (some ⟨tb,tq,none⟩) 2 c)/\w'.cell? ⟨tb,tq+6,none⟩=some (.int .i64 k1)/\w'.cell? ⟨tb,tq+6+1,none⟩=some (.string s1)/\w'.cell? ⟨tb,tq+6+2,none⟩=some (.int .i64 nn1)/\w'.cell? ⟨tb,tq+6+3,none⟩=some (.slice A1 kM.length cc1)/\w'.cell? ⟨tb,tq+6+4,none⟩=some (.slice B1 kL.length d1)/\w'.cell? ⟨tb,tq+6+5,none⟩=some (.slice C1 kN.length e1))) (by kernel_rfl) (hY.o _ (hH.o.then (Below.refl _ _).drew)) (fun hB=>?_);refine Ab.s [0,1,2,3,5,6,7,8,9,10,11] ?_
  iterate 11 (refine Ab.k (so rfl) hB ?_;try simp only[Act.put,Bd,Be,Bf])
  refine Ab.d ?_;refine wpAnyH_ready (rs:=[4]) (by kernel_rfl) (by simp) ?_;refine AllReadyH.cons (sd (some 145) rfl) (fun Kx hK=>?_) AllReadyH.nil;go_simp;generalize kZ:World.drew (World.alloc w3 (.cells #[.string s] 9))=w4;have kB:Below w3.heap.size w3 w4:=by rw[<-kZ];exact ((Below.refl _ _).alloc (Nat.le_refl _) _).drew
  have kW:w4.heap[w3.heap.size]?=some (.cells #[.string s] 9 (0,0)):=by rw[<-kZ];exact heap_alloc_new w3 _
  obtain⟨nb,aG⟩:∃nb,nb=w3.heap.size:=⟨_,rfl⟩;rw[<-aG]at kW ⊢;have cO:=Hd aG;have kF:=Hd kB;have cY:=Hd kW;have kA:Ad (fun x=>x=sb\/x=wk) w w4:=(hX.o w3 hH.o).then kB;have bH:Cg w4 [s] (some ⟨nb,0,none⟩):=⟨nb,0,fun _=>rfl,by show 1<=_;omega,fun i hi=>by
   obtain rfl:i=0:=by simp at hi;omega
   rw[Ch kW];rfl⟩
  have hV:=(cQ.o w4 (hH.o.then kB)).2;have bL:=dY.o.but (Ad.of_below (O:=fun _=>False) kB) (fun h=>h) (fun x h=>h.elim) fun _ _ h=>h;have aV:=Jp (K:=K) (Kt:=K) (c:=1) bH (fun b o e=>by injection e with e;injection e with e _ _;have h1:=hN.o;have h2:=HZ.o.2 sb HZ.o.1.1;omega) (Nat.succ_pos _) hV (fun x hx=>Nat.lt_of_lt_of_le (hF.o x hx).1 kA.size) (fun x hx=>⟨Nat.lt_of_lt_of_le (hF.o x hx).1 kA.size,(hF.o x hx).2⟩) (cA.o w4 kA) bL (.inl HZ.o.1.1) (fun x h=>by
   have h1:=kB.size;have h2:=hN.o;have h3:=hZ.o;rcases h with h|h|h
   ·have:=HZ.o.2 x h;omega
   ·omega
   ·omega) (by have h1:=HZ.o.2 wk HZ.o.1.2;have h2:=kA.size;omega) ⟨kC.o.2.1,kC.o.2.2.2,by have:=aL.o;omega⟩ dW.o (fun x hx=>Nat.le_trans (Lt _ _ hV x (Rl x _ hx)) (by decide)) aP.o
  have KE:=Hd aV;have eM:=Hd kA;clear kZ kB kW aG kA bH hV bL aV;refine hK.out _ _ (hY.o _ (hH.o.then kF.o)) (fun hB=>?_);clear hK Kx;try simp only[Act.put,Bd,Be,Bf]
  refine wpAnyH_ready (rs:=[12]) (by kernel_rfl) (by simp) ?_;refine AllReadyH.cons (sd (some 153) rfl) (fun Kx hK=>?_) AllReadyH.nil;go_simp;refine KE.o.mono ?_;rintro r w5 ⟨m',rfl,aY,aZ,aD,bI⟩;have cL:=Hd aY;have cT:=Hd aZ;have kX:=Hd aD;have kD:Z9 (Ad (fun x=>x=sb\/x=wk) w1 w5):=Hd ((hH.o.then kF.o).trans aD fun x h=>.inl (.inl h));clear aY aZ aD KE;go_wp2_with fail;refine hK.out _ _ (hY.o _ kD.o) (fun hB=>?_);clear hK Kx;try simp only[Act.put,Bd,Be,Bf]
  refine Ab.s [13,14,15,16,17] ?_
  iterate 5 (refine Ab.k (so rfl) hB ?_;try simp only[Act.put,Bd,Be,Bf])
  refine Ab.d ?_;refine wpAnyH_done (by kernel_rfl) ?_ _;clear hB;have aI:=(kX.o.up (by have h1:=hD.o;show ¬ g2=sb;omega) (Bj kF.o (Array.getElem?_eq_some_iff.1 cC.o).1 cC.o));have bJ:=kX.o.up (by have h1:=cO.o;have h2:=HZ.o.2 sb HZ.o.1.1;have h3:=hN.o;show ¬ nb=sb;omega) cY.o;have bC:=kX.o.up (fun e=>aM.o e) (Bj kF.o (Array.getElem?_eq_some_iff.1 bZ.o).1 bZ.o);obtain⟨w6,kU⟩:∃x,x=w5.setCell ⟨g2,1,none⟩ (.string s):=⟨_,rfl⟩;have hJ:Ad (fun x=>x=g2) w5 w6:=by rw[kU];exact (Ad.refl (fun x=>x=g2) w5).put1 1 _
  have bT:w6.heap[g2]?=some (.cells #[.int .i64 20,.string s,.int .i64 n,.slice (some ⟨tb,tq,none⟩) 2 c,.slice B 0 d,.slice C 0 e] 26 (0,0)):=by rw[kU];exact Cw aI 1 _
  have kP:=Hd bT;have cK:=Hd (hJ.up (fun e=>hD.o (.inr e.symm)) bC);have cU:Z9 (Ce K (fun x=>Z x\/x=g\/x=g2) w6 sb u nd):=Hd (cT.o.but hJ (fun e=>hD.o (.inl e.symm)) (fun x h=>.inl (.inr (.inr h))) fun x hx e=>by have h1:=(hF.o x hx).1;have h2:=hI.o;have h3:=HG.o;have e:x=g2:=e;omega);have hC:Z9 (Ad (fun x=>x=sb\/x=wk) w1 w6):=Hd (kD.o.trans hJ fun x h=>.inr (by have h1:=hI.o;have e:x=g2:=h;omega));have cM:Z9 (∀wx,Ad (fun x=>x=sb\/x=wk) w6 wx->Cp wk sb n0 wx m' (Bp n0 (.mk k1 s1 nn1 kM kL kN) && !Dc [s] n0)):=Hd fun wx hx=>cL.o.butM ((hJ.mono (O':=fun x=>x=g2\/x=sb\/x=wk) fun x h=>.inl h).trans hx fun x h=>.inl (.inr h)) fun x h=>by
   rcases h with h|h|h
   ·exact .inr (.inr (.inr fun e=>by have h1:=bI x e;have h2:=kF.o.size;have h3:=hZ.o;omega))
   ·exact .inr (.inl h)
   ·exact .inl h
  have cX:=Hd kU;have y0:=Ch bJ 0;simp only[List.getElem?_toArray,List.getElem?_cons_zero]at y0;obtain⟨q0,q1,q2,q3,q4,q5,z0,z1,z2,z3,z4,z5⟩:=Je aI;clear aI bJ bC kU hJ bT bI;go_upto_region 28 with fail
  rw[<-cX.o];clear y0 q0 q1 q2 q3 q4 q5 z0 z1 z2 z3 z4 z5;have cI:Z9 (Ad (fun x=>x=sb\/x=wk) w w6):=Hd (hX.o w6 hC.o);have kI:Z9 (∀wx,Ad (fun x=>x=sb\/x=wk) w6 wx->∀x,(Z x\/x=g\/x=g2)->x<wx.heap.size):=Hd fun wx hx x h=>by
   have h1:=(hX.o w6 hC.o).size;have h2:=hx.size;have h3:=hN.o;have h4:=(Array.getElem?_eq_some_iff.1 kP.o).1;have h5:=hI.o;rcases h with h|h|h
   ·have:=HZ.o.2 x h;omega
   ·omega
   ·omega
  have kS:Ad (fun x=>x=sb\/x=wk) w1 w6.drew:=hC.o.then (Below.refl _ _).drew;have hU:Ad (fun x=>x=sb\/x=wk) w6 w6.drew:=(Ad.refl _ _).then (Below.refl _ _).drew;have kQ:=cB.o.1 K (fun x=>Z x\/x=g\/x=g2) wk sb nd w6.drew tb tq m true n1 (cD.o _ kS).1 aT.o.2 (fun x hx=>⟨Nat.lt_of_lt_of_le (hF.o x hx).1 (hX.o _ kS).size,(hF.o x hx).2⟩) (cA.o _ (hX.o _ kS)) (cU.o.but (Ad.of_below (O:=fun _=>False) (Below.refl _ _).drew) (fun h=>h) (fun x h=>h.elim) fun _ _ h=>h) (.inl HZ.o.1.1) (.inl HZ.o.1.2) (kI.o _ hU) cK.o aM.o (by have:=aL.o;omega) ⟨kC.o.1,kC.o.2.2.1⟩ (fun _=>aR.o trivial);unfold Ci at kQ;rw[if_pos rfl]at kQ;have KO:=Hd kQ;have hL:Z9 (∀wx,Ad (fun x=>x=sb\/x=wk) w6 wx->wx.cell? ⟨bp,op+3,none⟩=some (.slice (some ⟨tb,tq,none⟩) 2 c)/\wx.cell? ⟨g2,1,none⟩=some (.string s)):=Hd fun wx hx=>⟨(HX.o wx (hC.o.trans hx fun x h=>.inl h)).2.2.2.1,(D4 (hx.up hD.o kP.o)).2.1⟩;clear kS kQ;refine wp_region_held_drew (S:=(fun w'=>w'.cell? ⟨bp,op+3,none⟩=some (.slice (some ⟨tb,tq,none⟩) 2 c)/\w'.cell? ⟨g2,1,none⟩=some (.string s))) (by kernel_rfl) (hL.o _ hU) (fun hB=>?_);clear hU;refine Ab.s [0,1,2,3,4,5,6,8,9,10,11,12,13,14] ?_
  iterate 14 (refine Ab.k (so rfl) hB ?_;try simp only[Act.put,Bd,Be,Bf])
  refine Ab.d ?_;refine wpAnyH_ready (rs:=[7]) (by kernel_rfl) (by simp) ?_;refine AllReadyH.cons (sd (some 167) rfl) (fun Kx hK=>?_) AllReadyH.nil;go_simp;refine KO.o.mono ?_;rintro r w7 ⟨dS,rfl,hW,bD,bM,bA⟩;have hG:Z9 (Ad (fun x=>x=sb\/x=wk) w6 w7):=Hd (Ad.from (Below.refl w6.heap.size w6).drew bA);have kE:Z9 (Ad (fun x=>x=sb\/x=wk) w1 w7):=Hd (hC.o.trans hG.o fun x h=>.inl h);have kR:=cB.o.2 K (fun x=>Z x\/x=g\/x=g2) wk sb nd w7 tb (tq+6) m' (Bp n0 (.mk k1 s1 nn1 kM kL kN) && !Dc [s] n0) (n1+Am p0) (cD.o _ kE.o).2 aT.o.2 (fun x hx=>⟨Nat.lt_of_lt_of_le (hF.o x hx).1 (hX.o _ kE.o).size,(hF.o x hx).2⟩) (cM.o _ hG.o) bM (.inl HZ.o.1.1) (.inl HZ.o.1.2) (kI.o _ hG.o) bD aM.o (by have:=aL.o;omega) ⟨kC.o.2.1,kC.o.2.2.2⟩ aS.o;unfold Ci at kR;have kY:=Hd hW;clear hW bD bM bA KO;rw[<-eB.o]at kR;have KO:=Hd kR;clear kR;go_wp2_with fail;refine hK.out _ _ (hL.o _ hG.o) (fun hB=>?_);clear hK Kx;try simp only[Act.put,Bd,Be,Bf]
  refine wpAnyH_ready (rs:=[15]) (by kernel_rfl) (by simp) ?_;refine AllReadyH.cons (sd (some 175) rfl) (fun Kx hK=>?_) AllReadyH.nil;go_simp;refine KO.o.mono ?_;rintro r w8 ⟨dT,rfl,bK,bE,bN,aE⟩;have hP:Z9 (Ad (fun x=>x=sb\/x=wk) w6 w8):=Hd (hG.o.trans aE fun x h=>.inl h);have hW:Aw (fun x=>K x\/w6.heap.size<=x) w8 T0 dS:=by
   rw[eA.o];exact kY.o.but aE fun x hx=>⟨fun h=>by
    have h1:=(hX.o w6 hC.o).size;have h2:=HZ.o.2 sb HZ.o.1.1;have h3:=HZ.o.2 wk HZ.o.1.2;have h4:w6.drew.heap.size=w6.heap.size:=rfl;rcases hx with hx|hx
    ·exact h.elim (hF.o x hx).2.1 (hF.o x hx).2.2
    ·rcases h with h|h <;> omega,hx⟩
  have hM:Aw (fun x=>K x\/w6.heap.size<=x) w8 T1 dT:=bK.weak fun x hx=>hx.imp id fun h=>by have:=hG.o.size;omega
  have aO:=Hd bE;have cV:=Hd bN;clear bK bE bN aE KO;obtain⟨k7,s7,n7,bV,aW,bX⟩:=T0;obtain⟨k8,s8,n8,bW,aX,bY⟩:=T1;obtain⟨A7,c7,B7,d7,C7,e7,rfl,-⟩:=hW.inv;obtain⟨A8,c8,B8,d8,C8,e8,rfl,-⟩:=hM.inv;simp only[Az]at hW hM ⊢;have kY:=Hd hW;have cR:=Hd hM;clear hW hM;go_wp2_with fail;refine hK.out _ _ (hL.o _ hP.o) (fun hB=>?_);clear hK Kx;try simp only[Act.put,Bd,Be,Bf]
  refine wpAnyH_ready (rs:=[16]) (by kernel_rfl) (by simp) ?_;refine AllReadyH.cons (sd (some 176) rfl) (fun Kx hK=>?_) AllReadyH.nil;go_simp;generalize aA:World.alloc w8 (.cells #[.int .i64 k7,.string s7,.int .i64 n7,.slice A7 bV.length c7,.slice B7 aW.length d7,.slice C7 bX.length e7,.int .i64 k8,.string s8,.int .i64 n8,.slice A8 bW.length c8,.slice B8 aX.length d8,.slice C8 bY.length e8] 26)=w9;have bB:Below w8.heap.size w8 w9:=by rw[<-aA];exact (Below.refl _ _).alloc (Nat.le_refl _) _
  have aJ:w9.heap[w8.heap.size]?=some (.cells #[.int .i64 k7,.string s7,.int .i64 n7,.slice A7 bV.length c7,.slice B7 aW.length d7,.slice C7 bX.length e7,.int .i64 k8,.string s8,.int .i64 n8,.slice A8 bW.length c8,.slice B8 aX.length d8,.slice C8 bY.length e8] 26 (0,0)):=by rw[<-aA];exact heap_alloc_new w8 _
  obtain⟨rb,aH⟩:∃rb,rb=w8.heap.size:=⟨_,rfl⟩;rw[<-aH]at aJ ⊢;have cS:=Hd aH;have kG:=Hd bB;have cZ:=Hd aJ;clear aA bB aJ aH;have hQ:Z9 (Ad (fun x=>x=sb\/x=wk) w6 w9):=Hd (hP.o.then kG.o);have kT:=hQ.o.up hD.o kP.o;have cP:=Hd kT;have y3:=Ch kT 3;have v3:=Lib.frozen_of_heap kT 3;simp only[List.getElem?_toArray,List.getElem?_cons_zero,List.getElem?_cons_succ]at y3;clear kT;refine hK.out _ _ (hL.o _ hQ.o) (fun hB=>?_);clear hK Kx;try simp only[Act.put,Bd,Be,Bf]
  refine Ab.s [17] ?_;refine Ab.k (so rfl) hB ?_;try simp only[Act.put,Bd,Be,Bf]
  refine Ab.d ?_;refine wpAnyH_ready (rs:=[18]) (by kernel_rfl) (by simp) ?_;refine AllReadyH.cons (sd none rfl) (fun Kx hK=>?_) AllReadyH.nil;go_simp;clear y3 v3;obtain⟨wq,kV⟩:∃x,x=w9.setCell ⟨g2,3,none⟩ (.slice (some ⟨rb,0,none⟩) 2 2):=⟨_,rfl⟩;have hT:Ad (fun x=>x=g2) w9 wq:=by rw[kV];exact (Ad.refl (fun x=>x=g2) w9).put1 3 _
  have bU:wq.heap[g2]?=some (.cells #[.int .i64 20,.string s,.int .i64 n,(.slice (some ⟨rb,0,none⟩) 2 2),.slice B 0 d,.slice C 0 e] 26 (0,0)):=by rw[kV];exact Cw cP.o 3 _
  have hR:=Hd hT;have kH:Z9 (Ad (fun x=>x=sb\/x=wk) w1 wq):=Hd (((hC.o.trans hQ.o fun x h=>.inl h)).trans hT fun x h=>.inr (by have h1:=hI.o;have e:x=g2:=h;omega));rw[<-kV];have aU:=Hd bU;clear kV hT bU;refine hK.out _ _ ⟨(HX.o wq kH.o).2.2.2.1,(D4 aU.o).2.1⟩ (fun hB=>?_);clear hK Kx;try simp only[Act.put,Bd,Be,Bf]
  refine wpAnyH_done (by kernel_rfl) ?_ _;clear hB;have rbx:=HY.o _ kH.o;obtain⟨x0,x1,x2,x3,x4,x5⟩:=D4 aU.o;obtain⟨q0,q1,q2,q3,q4,q5,z0,z1,z2,z3,z4,z5⟩:=Je rbx;have RBX:=Hd rbx;clear rbx;go_wp2_with fail;obtain⟨r0,r1,r2,r3,r4,r5⟩:=D4 (Cd RBX.o (.int .i64 20) (.string s) (.int .i64 n) ((.slice (some ⟨rb,0,none⟩) 2 2)) (.slice B 0 d) (.slice C 0 e));clear q0 q1 q2 q3 q4 q5 z0 z1 z2 z3 z4 z5;refine bodyPost_ret (v:=.agg #[.int .i64 20,.string s,.int .i64 n,(.slice (some ⟨rb,0,none⟩) 2 2),.slice B 0 d,.slice C 0 e]) (by simp[results,Tryz.results43,go_sem,r0,r1,r2,r3,r4,r5]) rfl ?_;clear r0 r1 r2 r3 r4 r5;have kO:=Cr wq g (.int .i64 20) (.string s) (.int .i64 n) ((.slice (some ⟨rb,0,none⟩) 2 2)) (.slice B 0 d) (.slice C 0 e);have h1:=HCN.o;have h2:=cN.o;have h3:=HG.o;have h4:=hI.o;have h5:=hZ.o;have h6:=cS.o;have h7:=cI.o.size;have h8:=hP.o.size;have dM:=HZ.o.2 sb HZ.o.1.1;have dQ:=HZ.o.2 wk HZ.o.1.2;have h9:=(Array.getElem?_eq_some_iff.1 kP.o).1;refine aQ.o _ _ ⟨[.int .i64 20,.string s,.int .i64 n,(.slice (some ⟨rb,0,none⟩) 2 2),.slice B 0 d,.slice C 0 e],rfl,?_,by rw[<-h1];exact kO.up (by show ¬ wk=g;omega) (hR.o.up (fun e=>hD.o (.inr e.symm)) (Bj kG.o (Array.getElem?_eq_some_iff.1 aO.o).1 aO.o)),?_,Dx aK.o kH.o HG.o kO⟩
  ·rw[dZ.o];obtain⟨b2,o2,r2,-⟩:=dV.o _ kH.o;obtain⟨b3,o3,r3,-⟩:=eC.o _ kH.o;have hl:=Rz (kY.o.later kG.o) (cR.o.later kG.o) cZ.o;have dK:=(hl.but (K':=fun x=>(K x\/w6.heap.size<=x)\/x=rb) hR.o fun x hx=>⟨fun e=>by
    have e:x=g2:=e;rcases hx with (hx|hx)|hx
    ·have:=(hF.o x hx).1;omega
    ·omega
    ·omega,hx⟩).but (K':=fun x=>K x\/w.heap.size<=x) kO fun x hx=>⟨fun e=>by
    have e:x=g:=e;rcases hx with (hx|hx)|hx
    ·have:=(hF.o x hx).1;omega
    ·omega
    ·omega,by
    rcases hx with (hx|hx)|hx
    ·exact .inl hx
    ·exact .inr (by omega)
    ·exact .inr (by omega)⟩
   have hr:=Aw.of (k:=20) (n:=n) (fs:=[]) (vs:=[]) (A':=B) (c':=d) (A'':=C) (c'':=e) cW.o dK ⟨b2,o2,⟨r2.le,r2.big,r2.none,fun h=>absurd h (by simp)⟩,fun i h=>absurd h (by simp)⟩ ⟨b3,o3,⟨r3.le,r3.big,r3.none,fun h=>absurd h (by simp)⟩,fun i h=>absurd h (by simp)⟩;exact hr
  ·have h6':=(cV.o.but (Ad.of_below (O:=fun _=>False) kG.o) (fun h=>h) (fun x h=>h.elim) fun _ _ h=>h).but hR.o (fun e=>hD.o (.inl e.symm)) (fun x h=>.inl (.inr (.inr h))) fun x hx e=>by have h6:=(hF.o x hx).1;have e:x=g2:=e;omega
   exact (h6'.but kO (fun e=>by have e:sb=g:=e;omega) (fun x h=>.inl (.inr (.inl h))) fun x hx e=>by have h6:=(hF.o x hx).1;have e:x=g:=e;omega).more fun x h=>.inl (.inl h)
