import Derived.Test.YtlpfpehegddcfaaGreatDoorMw39
namespace Go.Proofs.YtlpfpehegddcfaaGreatDoor
set_option maxRecDepth 100000
set_option maxHeartbeats 64000000
open Go.RowKit
theorem S4 {P:Nat->Prop}{w:World}{g:Nat}{t0 t1:Ty}{c0 c1:List Value}(h0:An P w t0 c0) (h1:An P w t1 c1) (hx:w.heap[g]?=some (.cells (c0++c1).toArray 26 (0,0))):Bh (fun x=>P x\/x=g) w [t0,t1] (some ⟨g,0,none⟩) 2:=
 ⟨g,0,⟨Nat.le_refl _,by show 2<=_;omega,(fun h=>by cases h),fun _=>⟨rfl,.inr rfl⟩⟩,fun i hi=>by
  have e0:=h0.six;have hc:∀j u,(c0++c1)[j]?=some u->w.cell? ⟨g,j,none⟩=some u:=fun j u hj=>by rw[Ch hx];simpa using hj
  match i,hi with
  | 0,_=>exact⟨c0,fun j u hj=>by have h9:=hc j u (by rw[List.getElem?_append_left (List.getElem?_eq_some_iff.1 hj).1];exact hj);simpa using h9,h0.weak fun x h=>.inl h⟩
  | 1,_=>exact⟨c1,fun j u hj=>by have h9:=hc (1*6+j) u (by rw[List.getElem?_append_right (by omega),show 1*6+j - c0.length=j by omega];exact hj);simpa using h9,h1.weak fun x h=>.inl h⟩⟩
theorem U9 {x:Z8}{u p0 p1:Ty}{n:Int}{s:Z8}(h1:Ai p1=true):Bg x u (.mk 20 s n [p0,p1] [] [])=.mk 20 s n [Bg x u p0,if (Bx x p1 && !Dp [s] x)=true then Bg x u p1 else p1] [] []:=by
 rw[Fb,if_neg (by simp),if_neg (by decide)];simp only[Er,List.map_nil];have e0:(Ff ([]:Bw) x || Dz 20 s n [p0,p1] 0 x)=false:=by simp[Ff,Dz]
 have e1:(Ff ([]:Bw) x || Dz 20 s n [p0,p1] (0+1) x)=decide (s=x):=by simp[Ff,Dz]
 have e2:Dp [s] x=decide (s=x):=by simp[Dp]
 rw[e2];have h0:(if (Ff ([]:Bw) x || Dz 20 s n [p0,p1] 0 x)=true then p0 else Bg x u p0)=Bg x u p0:=if_neg (by rw[e0];decide);have h2:(if (Ff ([]:Bw) x || Dz 20 s n [p0,p1] (0+1) x)=true then p1 else Bg x u p1)=if (Bx x p1 && !decide (s=x))=true then Bg x u p1 else p1:=by
  rw[e1];by_cases h:s=x
  ·simp[h]
  ·rw[decide_eq_false h,if_neg (by decide)]
   cases hf:Bx x p1 with
   | true=>rfl
   | false=>rw[Es x u p1 h1 hf];rfl
 rw[h0,h2]
theorem Yq {Cc:Prop}{n0:Z8}{u:Ty}{K Z:Nat->Prop}{wk sb nd:Nat}{w:World}{bp op a:Nat}{m:Option Nat}{n:Int}{s:Z8}{p0 p1:Ty}(ha:Dm K w (.mk 20 s n [p0,p1] [] []) bp op) (eF:bp≠sb/\bp≠wk) (hK:∀x,K x->x<w.heap.size/\x≠sb/\x≠wk) (hE:Ct wk sb n0 w m true) (hS:Cg K Z w sb u nd) (dG:Z sb) (cD:Z wk) (dF:∀x,Z x->x<w.heap.size) (dO:w.heap[wk]?=some (.cells #[.int .i64 (a:Int)] 85 (0,0))) (dQ:wk≠sb) (eN:a+Am (.mk 20 s n [p0,p1] [] [])<=4096) (cE:Ai (.mk 20 s n [p0,p1] [] [])=true/\Dy (.mk 20 s n [p0,p1] [] [])=true) (eO:(nd=1/\Am u=1/\Cc)\/Bx n0 (.mk 20 s n [p0,p1] [] [])=false) (eG:Ai u=true/\Dy u=true/\Am u<=5000) (bE:Bx n0 p1=true->Dp [s] n0=false->∀x∈[s],Bx x u=false) (eH:true=true->(nd=1/\Am u=1/\Cc)\/Bx n0 p0=false) (hn1':(Bx n0 p1 && !Dp [s] n0)=true->(nd=1/\Am u=1/\Cc)\/Bx n0 p1=false) (ih:M1 Cc n0 u p0/\M1 Cc n0 u p1) :
  Calls Tryz.prog 43 #[.pointer (some ⟨wk,0,none⟩),.pointer (some ⟨bp,op,none⟩),.map m] w (Ck n0 u K Z wk sb nd w true a (.mk 20 s n [p0,p1] [] [])):=by
 have eM:Am (.mk 20 s n [p0,p1] [] [])=1+(Am p0+Am p1):=by rw[B0];show 1+(Au [p0,p1]+(Bm []+Br []))=_;unfold Au Bm Br;simp
 have aF:Ai p1=true:=D1 cE.1 p1 (show p1∈[p0,p1] by simp);have bF:Ai p0=true:=D1 cE.1 p0 (show p0∈[p0,p1] by simp);have dN:=(Gc cE.2).2.2.1;have bO:=dN p0 (by simp);have bP:=dN p1 (by simp);obtain⟨PO,dC⟩:∃PO:Ending->World->Prop,PO=Ck n0 u K Z wk sb nd w true a (.mk 20 s n [p0,p1] [] []):=⟨_,rfl⟩;have aP:Z9 (∀e w',(∃rs:List Value,e=.returned (.agg rs.toArray)/\An (fun x=>K x\/w.heap.size<=x) w' (Bg n0 u (.mk 20 s n [p0,p1] [] [])) rs/\w'.heap[wk]?=some (.cells #[.int .i64 ((a+Am (.mk 20 s n [p0,p1] [] []):Nat):Int)] 85 (0,0))/\Cg K Z w' sb u nd/\Ad (fun x=>x=sb\/x=wk) w w')->PO e w'):=Hd fun e w' h=>by
  rw[dC];unfold Ck;rw[if_pos rfl];exact h
 rw[<-dC];have dK:wk<w.heap.size:=(Array.getElem?_eq_some_iff.1 dO).1;have eJ:sb<w.heap.size:=dF sb dG;refine Iz ha eF hK ⟨dK,eJ⟩ fun A c B d C e w1 g h=>?_;obtain⟨HX,HY,HB1,HS1,HG,HW1,HP,dU,eB,cV,cM,eQ⟩:=h;have cI:=Hd (Ay HB1.o dK dO);have hF:=Hd hK;have aL:=Hd dQ;have eR:=Hd cD;have HE:=Hd hE;have cZ:=hE.but (Ad.of_below (O:=fun _=>False) HB1.o) fun _ h=>h.elim;obtain⟨z,hz,eK⟩:=cZ.len;have f1:¬ z=0:=of_decide_eq_false eK;have lk:=cZ.look s (Nat.le_trans cV.o (by decide));obtain⟨n1,eI⟩:∃n1,n1=a+1:=⟨_,rfl⟩;obtain⟨w2,bQ⟩:∃x,x=w1.setCell ⟨wk,0,none⟩ (.int .i64 ((a:Int)+1)):=⟨_,rfl⟩;have aC:Ad (fun x=>x=wk) w1 w2:=by rw[bQ];exact (Ad.refl (fun x=>x=wk) w1).put1 0 _
 have dI:w2.heap[wk]?=some (.cells #[.int .i64 (n1:Int)] 85 (0,0)):=by rw[bQ,eI];exact C0 cI.o 0 _
 obtain⟨g2,cF⟩:∃x,x=w2.heap.size:=⟨_,rfl⟩;have dM:w2.heap.size=w1.heap.size:=by rw[bQ];simp
 obtain⟨w3,bR⟩:∃x,x=w2.alloc (.cells #[.int .i64 20,.string s,.int .i64 n,.slice A 2 c,.slice B 0 d,.slice C 0 e] 26):=⟨_,rfl⟩;have dH:Below w2.heap.size w2 w3:=by rw[bR];exact (Below.refl _ _).alloc (Nat.le_refl _) _
 have kK:Ad (fun x=>x=wk) w1 w3:=aC.then dH;have kJ:Ad (fun x=>x=wk) w w3:=(Ad.of_below (O:=fun x=>x=wk) HB1.o).trans kK fun x h=>.inl h;have aB:Ad (fun x=>x=sb\/x=wk) w1 w3:=kK.mono fun x h=>.inr h;have bY:Z9 (w3.heap[wk]?=some (.cells #[.int .i64 (n1:Int)] 85 (0,0))):=Hd (Ay dH (Array.getElem?_eq_some_iff.1 dI).1 dI);have dX:Z9 (Cg K (fun x=>Z x\/x=g\/x=g2) w3 sb u nd):=Hd ((hS.more fun x h=>h.elim .inl fun e=>.inr (by have h1:=HG.o;have h2:=HS1.o;omega)).but kJ (fun h=>dQ h.symm) (fun x h=>.inl (.inl (h ▸ cD))) fun x hx=>(hK x hx).2.2);have eP:Z9 (Ct wk sb n0 w3 m true):=Hd (hE.but kJ fun x h=>.inl h);have hN:Z9 (w.heap.size<w3.heap.size/\g<w3.heap.size):=Hd (by have h1:=HS1.o;have h2:=HG.o;have h3:=aB.size;omega);have HZ:Z9 ((Z sb/\Z wk)/\∀x,Z x->x<w.heap.size):=Hd ⟨⟨dG,cD⟩,dF⟩;have eC:=Hd bQ;have dT:Z9 (Ad (fun x=>x=sb\/x=wk) w1 w2):=Hd (aC.mono fun x h=>.inr h);have eD:=Hd bR;have hH:=Hd aB;have c0:=Ch cI.o 0;have c1:=Lib.frozen_of_heap cI.o 0;simp only[List.getElem?_toArray,List.getElem?_cons_zero]at c0;have t1:decide ((4096:Int)<(a:Int))=false:=decide_eq_false (by omega);have t1':¬ (4096:Int)<(a:Int):=by omega
 have t1'':¬ 4096<a:=by omega
 obtain⟨x0,x1,x2,x3,x4,x5⟩:=HX.o w1 (Ad.refl _ _);have bN:w3.heap.size=g2+1:=by rw[bR,cF];simp
 have cB:Z9 (w3.heap[g2]?=some (.cells #[.int .i64 20,.string s,.int .i64 n,.slice A 2 c,.slice B 0 d,.slice C 0 e] 26 (0,0))):=Hd (by rw[bR,cF];exact heap_alloc_new w2 _);have dW:=Hd cF;have hZ:=Hd bN;have hI:Z9 (w1.heap.size<=g2/\g<g2):=Hd (by have h1:=HS1.o;omega);have hD:Z9 (¬ (g2=sb\/g2=wk)):=Hd (by have h1:=cM.o;have h2:=hI.o;omega);have bZ:Z9 (∀wx,Ad (fun x=>x=sb\/x=wk) w wx->Ct wk sb n0 wx m true):=Hd fun wx hx=>hE.but hx fun x h=>h.elim (fun e=>.inr (.inl e)) .inl;obtain⟨T0,dD⟩:∃T,T=Bg n0 u p0:=⟨_,rfl⟩;obtain⟨T1,dE⟩:∃T,T=if (Bx n0 p1 && !Dp [s] n0)=true then Bg n0 u p1 else p1:=⟨_,rfl⟩
 have dY:Z9 (Bg n0 u (.mk 20 s n [p0,p1] [] [])=.mk 20 s n [T0,T1] [] []):=Hd (by rw[dD,dE];exact U9 aF);have dZ:=Hd dD;have hX:Z9 (∀wx,Ad (fun x=>x=sb\/x=wk) w1 wx->Ad (fun x=>x=sb\/x=wk) w wx):=Hd fun wx hx=>(Ad.of_below (O:=(fun x=>x=sb\/x=wk)) HB1.o).trans hx fun x h=>.inl h;obtain⟨tb,tq,hA,dA,-⟩:=(HP.o w1 (Ad.refl _ _)).at (Nat.succ_pos _:0 < [p0,p1].length);subst hA;have aS:Z9 (K tb/\tb≠sb/\tb≠wk):=Hd ⟨dA,(hK tb dA).2⟩;have dB:∀wx,Ad (fun x=>x=sb\/x=wk) w1 wx->Dm K wx p0 tb tq/\Dm K wx p1 tb (tq+6):=fun wx hx=>by
  obtain⟨tb',tq',hA,-,eE⟩:=(HP.o wx hx).at (Nat.succ_pos _:0 < [p0,p1].length);injection hA with hA
  injection hA with e1 e2 _
  subst e1;subst e2;exact⟨eE 0 (Nat.succ_pos _),eE 1 (Nat.lt_succ_self _)⟩
 have cC:=Hd dB;have kC:Z9 (Ai p0=true/\Ai p1=true/\Dy p0=true/\Dy p1=true):=Hd ⟨bF,aF,bO,bP⟩;have dV:=Hd eG;have aO:=Hd bE;have aQ:=Hd eH;have aR:=Hd hn1';have cA:=Hd ih;have HCN:Z9 (n1+Am p0+Am p1=a+Am (.mk 20 s n [p0,p1] [] [])):=Hd (by omega);have aK:Z9 (n1+Am p0+Am p1<=4096):=Hd (by omega);have eA:=Hd dE;obtain⟨eS,hO,cG⟩:=(dB w1 (Ad.refl _ _)).2;obtain⟨k1,s1,nn1,kM,kL,kN⟩:=p1;obtain⟨A1,cc1,B1,d1,C1,e1,rfl,-⟩:=cG.inv;simp only[Ao]at hO cG;have cP:Z9 (∀wx,Ad (fun x=>x=sb\/x=wk) w1 wx->(wx.cell? ⟨tb,tq+6,none⟩=some (.int .i64 k1)/\wx.cell? ⟨tb,tq+6+1,none⟩=some (.string s1)/\wx.cell? ⟨tb,tq+6+2,none⟩=some (.int .i64 nn1)/\wx.cell? ⟨tb,tq+6+3,none⟩=some (.slice A1 kM.length cc1)/\wx.cell? ⟨tb,tq+6+4,none⟩=some (.slice B1 kL.length d1)/\wx.cell? ⟨tb,tq+6+5,none⟩=some (.slice C1 kN.length e1))/\An K wx (.mk k1 s1 nn1 kM kL kN) [.int .i64 k1,.string s1,.int .i64 nn1,.slice A1 kM.length cc1,.slice B1 kL.length d1,.slice C1 kN.length e1]):=Hd fun wx hx=>by
  have aM:¬ (tb=sb\/tb=wk):=by have:=aS.o;omega
  refine⟨⟨hx.cell aM (hO 0 _ rfl),hx.cell aM (hO 1 _ rfl),hx.cell aM (hO 2 _ rfl),hx.cell aM (hO 3 _ rfl),hx.cell aM (hO 4 _ rfl),hx.cell aM (hO 5 _ rfl)⟩,cG.but hx fun x hx=>⟨fun h=>by have:=hF.o x hx;exact h.elim this.2.1 this.2.2,hx⟩⟩
 have hY:Z9 (∀wx,Ad (fun x=>x=sb\/x=wk) w1 wx->wx.cell? ⟨bp,op+1,none⟩=some (.string s)/\wx.cell? ⟨bp,op+3,none⟩=some (.slice (some ⟨tb,tq,none⟩) 2 c)/\wx.cell? ⟨tb,tq+6,none⟩=some (.int .i64 k1)/\wx.cell? ⟨tb,tq+6+1,none⟩=some (.string s1)/\wx.cell? ⟨tb,tq+6+2,none⟩=some (.int .i64 nn1)/\wx.cell? ⟨tb,tq+6+3,none⟩=some (.slice A1 kM.length cc1)/\wx.cell? ⟨tb,tq+6+4,none⟩=some (.slice B1 kL.length d1)/\wx.cell? ⟨tb,tq+6+5,none⟩=some (.slice C1 kN.length e1)):=Hd fun wx hx=>by
  have h:=HX.o wx hx;exact⟨h.2.1,h.2.2.2.1,(cP.o wx hx).1⟩
 clear ha eF hK hE hS dG cD dF dO dQ eN dK eJ dC eK cZ cE eH hn1' ih eM eI bQ aC dI bR dH kK kJ aB dM bN cF eG bE dD dE dA dB hO cG bF aF dN bO bP eO;go_enter Tryz.func43,Tryz.ntmps43;go_upto_region 1 with fail
 rw[<-HW1.o,<-HG.o];by_cases hq:n0=s
 ·rw[show (true && decide (n0=s))=true by simp[hq],if_pos rfl]at lk;go_upto_region 11 with fail
  clear c0 c1 lk hz x0 x1 x2 x3 x4 x5;rw[<-eC.o];obtain⟨x0,x1,x2,x3,x4,x5⟩:=HX.o w2 dT.o;go_upto_region 12 with fail
  clear x0 x1 x2 x3 x4 x5;rw[<-eD.o,<-dW.o];obtain⟨x0,x1,x2,x3,x4,x5⟩:=HX.o w3 hH.o;go_upto_region 26 with fail
  clear x0 x1 x2 x3 x4 x5;refine wp_region_held_drew (S:=(fun w'=>w'.cell? ⟨bp,op+1,none⟩=some (.string s)/\w'.cell? ⟨bp,op+3,none⟩=some (.slice (some ⟨tb,tq,none⟩) 2 c)/\w'.cell? ⟨tb,tq+6,none⟩=some (.int .i64 k1)/\w'.cell? ⟨tb,tq+6+1,none⟩=some (.string s1)/\w'.cell? ⟨tb,tq+6+2,none⟩=some (.int .i64 nn1)/\w'.cell? ⟨tb,tq+6+3,none⟩=some (.slice A1 kM.length cc1)/\w'.cell? ⟨tb,tq+6+4,none⟩=some (.slice B1 kL.length d1)/\w'.cell? ⟨tb,tq+6+5,none⟩=some (.slice C1 kN.length e1))) (by kernel_rfl) (hY.o _ (hH.o.then (Below.refl _ _).drew)) (fun hB=>?_);refine Ab.s [0,1,2,3,5,6,7,8,9,10,11] ?_
  iterate 11 (refine Ab.k (so rfl) hB ?_;try simp only[Act.put,Az,Ba,Bb])
  refine Ab.d ?_;refine wpAnyH_ready (rs:=[4]) (by kernel_rfl) (by simp) ?_;refine AllReadyH.cons (sd (some 145) rfl) (fun Kx hK=>?_) AllReadyH.nil;go_simp;generalize kZ:World.drew (World.alloc w3 (.cells #[.string s] 9))=w4;have kB:Below w3.heap.size w3 w4:=by rw[<-kZ];exact ((Below.refl _ _).alloc (Nat.le_refl _) _).drew
  have kW:w4.heap[w3.heap.size]?=some (.cells #[.string s] 9 (0,0)):=by rw[<-kZ];exact heap_alloc_new w3 _
  obtain⟨nb,aG⟩:∃nb,nb=w3.heap.size:=⟨_,rfl⟩;rw[<-aG]at kW ⊢;have cN:=Hd aG;have kF:=Hd kB;have cX:=Hd kW;have kA:Ad (fun x=>x=sb\/x=wk) w w4:=(hX.o w3 hH.o).then kB;have bG:Cm w4 [s] (some ⟨nb,0,none⟩):=⟨nb,0,fun _=>rfl,by show 1<=_;omega,fun i hi=>by
   obtain rfl:i=0:=by simp at hi;omega
   rw[Ch kW];rfl⟩
  have hV:=(cP.o w4 (hH.o.then kB)).2;have bK:=dX.o.but (Ad.of_below (O:=fun _=>False) kB) (fun h=>h) (fun x h=>h.elim) fun _ _ h=>h;have aU:=Kj (K:=K) (Kt:=K) (c:=1) bG (fun b o e=>by injection e with e;injection e with e _ _;have h1:=hN.o;have h2:=HZ.o.2 sb HZ.o.1.1;omega) (Nat.succ_pos _) hV (fun x hx=>Nat.lt_of_lt_of_le (hF.o x hx).1 kA.size) (fun x hx=>⟨Nat.lt_of_lt_of_le (hF.o x hx).1 kA.size,(hF.o x hx).2⟩) (bZ.o w4 kA) bK (.inl HZ.o.1.1) (fun x h=>by
   have h1:=kB.size;have h2:=hN.o;have h3:=hZ.o;rcases h with h|h|h
   ·have:=HZ.o.2 x h;omega
   ·omega
   ·omega) (by have h1:=HZ.o.2 wk HZ.o.1.2;have h2:=kA.size;omega) ⟨kC.o.2.1,kC.o.2.2.2,by have:=aK.o;omega⟩ dV.o (fun x hx=>Nat.le_trans (M9 _ _ hV x (Sr x _ hx)) (by decide)) aO.o
  have KE:=Hd aU;have eL:=Hd kA;clear kZ kB kW aG kA bG hV bK aU;refine hK.out _ _ (hY.o _ (hH.o.then kF.o)) (fun hB=>?_);clear hK Kx;try simp only[Act.put,Az,Ba,Bb]
  refine wpAnyH_ready (rs:=[12]) (by kernel_rfl) (by simp) ?_;refine AllReadyH.cons (sd (some 153) rfl) (fun Kx hK=>?_) AllReadyH.nil;go_simp;refine KE.o.mono ?_;rintro r w5 ⟨m',rfl,aX,aY,aD,bH⟩;have cK:=Hd aX;have cS:=Hd aY;have kX:=Hd aD;have kD:Z9 (Ad (fun x=>x=sb\/x=wk) w1 w5):=Hd ((hH.o.then kF.o).trans aD fun x h=>.inl (.inl h));clear aX aY aD KE;go_wp2_with fail;refine hK.out _ _ (hY.o _ kD.o) (fun hB=>?_);clear hK Kx;try simp only[Act.put,Az,Ba,Bb]
  refine Ab.s [13,14,15,16,17] ?_
  iterate 5 (refine Ab.k (so rfl) hB ?_;try simp only[Act.put,Az,Ba,Bb])
  refine Ab.d ?_;refine wpAnyH_done (by kernel_rfl) ?_ _;clear hB;have aI:=(kX.o.up (by have h1:=hD.o;show ¬ g2=sb;omega) (Ay kF.o (Array.getElem?_eq_some_iff.1 cB.o).1 cB.o));have bI:=kX.o.up (by have h1:=cN.o;have h2:=HZ.o.2 sb HZ.o.1.1;have h3:=hN.o;show ¬ nb=sb;omega) cX.o;have bB:=kX.o.up (fun e=>aL.o e) (Ay kF.o (Array.getElem?_eq_some_iff.1 bY.o).1 bY.o);obtain⟨w6,kU⟩:∃x,x=w5.setCell ⟨g2,1,none⟩ (.string s):=⟨_,rfl⟩;have hJ:Ad (fun x=>x=g2) w5 w6:=by rw[kU];exact (Ad.refl (fun x=>x=g2) w5).put1 1 _
  have bS:w6.heap[g2]?=some (.cells #[.int .i64 20,.string s,.int .i64 n,.slice (some ⟨tb,tq,none⟩) 2 c,.slice B 0 d,.slice C 0 e] 26 (0,0)):=by rw[kU];exact C0 aI 1 _
  have kP:=Hd bS;have cJ:=Hd (hJ.up (fun e=>hD.o (.inr e.symm)) bB);have cT:Z9 (Cg K (fun x=>Z x\/x=g\/x=g2) w6 sb u nd):=Hd (cS.o.but hJ (fun e=>hD.o (.inl e.symm)) (fun x h=>.inl (.inr (.inr h))) fun x hx e=>by have h1:=(hF.o x hx).1;have h2:=hI.o;have h3:=HG.o;have e:x=g2:=e;omega);have hC:Z9 (Ad (fun x=>x=sb\/x=wk) w1 w6):=Hd (kD.o.trans hJ fun x h=>.inr (by have h1:=hI.o;have e:x=g2:=h;omega));have cL:Z9 (∀wx,Ad (fun x=>x=sb\/x=wk) w6 wx->Ct wk sb n0 wx m' (Bx n0 (.mk k1 s1 nn1 kM kL kN) && !Dp [s] n0)):=Hd fun wx hx=>cK.o.butM ((hJ.mono (O':=fun x=>x=g2\/x=sb\/x=wk) fun x h=>.inl h).trans hx fun x h=>.inl (.inr h)) fun x h=>by
   rcases h with h|h|h
   ·exact .inr (.inr (.inr fun e=>by have h1:=bH x e;have h2:=kF.o.size;have h3:=hZ.o;omega))
   ·exact .inr (.inl h)
   ·exact .inl h
  have cW:=Hd kU;have y0:=Ch bI 0;simp only[List.getElem?_toArray,List.getElem?_cons_zero]at y0;obtain⟨q0,q1,q2,q3,q4,q5,z0,z1,z2,z3,z4,z5⟩:=Hr aI;clear aI bI bB kU hJ bS bH;go_upto_region 28 with fail
  rw[<-cW.o];clear y0 q0 q1 q2 q3 q4 q5 z0 z1 z2 z3 z4 z5;have cH:Z9 (Ad (fun x=>x=sb\/x=wk) w w6):=Hd (hX.o w6 hC.o);have kI:Z9 (∀wx,Ad (fun x=>x=sb\/x=wk) w6 wx->∀x,(Z x\/x=g\/x=g2)->x<wx.heap.size):=Hd fun wx hx x h=>by
   have h1:=(hX.o w6 hC.o).size;have h2:=hx.size;have h3:=hN.o;have h4:=(Array.getElem?_eq_some_iff.1 kP.o).1;have h5:=hI.o;rcases h with h|h|h
   ·have:=HZ.o.2 x h;omega
   ·omega
   ·omega
  have kS:Ad (fun x=>x=sb\/x=wk) w1 w6.drew:=hC.o.then (Below.refl _ _).drew;have hU:Ad (fun x=>x=sb\/x=wk) w6 w6.drew:=(Ad.refl _ _).then (Below.refl _ _).drew;have kQ:=cA.o.1 K (fun x=>Z x\/x=g\/x=g2) wk sb nd w6.drew tb tq m true n1 (cC.o _ kS).1 aS.o.2 (fun x hx=>⟨Nat.lt_of_lt_of_le (hF.o x hx).1 (hX.o _ kS).size,(hF.o x hx).2⟩) (bZ.o _ (hX.o _ kS)) (cT.o.but (Ad.of_below (O:=fun _=>False) (Below.refl _ _).drew) (fun h=>h) (fun x h=>h.elim) fun _ _ h=>h) (.inl HZ.o.1.1) (.inl HZ.o.1.2) (kI.o _ hU) cJ.o aL.o (by have:=aK.o;omega) ⟨kC.o.1,kC.o.2.2.1⟩ (fun _=>aQ.o trivial);unfold Ck at kQ;rw[if_pos rfl]at kQ;have KO:=Hd kQ;have hL:Z9 (∀wx,Ad (fun x=>x=sb\/x=wk) w6 wx->wx.cell? ⟨bp,op+3,none⟩=some (.slice (some ⟨tb,tq,none⟩) 2 c)/\wx.cell? ⟨g2,1,none⟩=some (.string s)):=Hd fun wx hx=>⟨(HX.o wx (hC.o.trans hx fun x h=>.inl h)).2.2.2.1,(Dw (hx.up hD.o kP.o)).2.1⟩;clear kS kQ;refine wp_region_held_drew (S:=(fun w'=>w'.cell? ⟨bp,op+3,none⟩=some (.slice (some ⟨tb,tq,none⟩) 2 c)/\w'.cell? ⟨g2,1,none⟩=some (.string s))) (by kernel_rfl) (hL.o _ hU) (fun hB=>?_);clear hU;refine Ab.s [0,1,2,3,4,5,6,8,9,10,11,12,13,14] ?_
  iterate 14 (refine Ab.k (so rfl) hB ?_;try simp only[Act.put,Az,Ba,Bb])
  refine Ab.d ?_;refine wpAnyH_ready (rs:=[7]) (by kernel_rfl) (by simp) ?_;refine AllReadyH.cons (sd (some 167) rfl) (fun Kx hK=>?_) AllReadyH.nil;go_simp;refine KO.o.mono ?_;rintro r w7 ⟨dR,rfl,hW,bC,bL,aZ⟩;have hG:Z9 (Ad (fun x=>x=sb\/x=wk) w6 w7):=Hd (Ad.from (Below.refl w6.heap.size w6).drew aZ);have kE:Z9 (Ad (fun x=>x=sb\/x=wk) w1 w7):=Hd (hC.o.trans hG.o fun x h=>.inl h);have kR:=cA.o.2 K (fun x=>Z x\/x=g\/x=g2) wk sb nd w7 tb (tq+6) m' (Bx n0 (.mk k1 s1 nn1 kM kL kN) && !Dp [s] n0) (n1+Am p0) (cC.o _ kE.o).2 aS.o.2 (fun x hx=>⟨Nat.lt_of_lt_of_le (hF.o x hx).1 (hX.o _ kE.o).size,(hF.o x hx).2⟩) (cL.o _ hG.o) bL (.inl HZ.o.1.1) (.inl HZ.o.1.2) (kI.o _ hG.o) bC aL.o (by have:=aK.o;omega) ⟨kC.o.2.1,kC.o.2.2.2⟩ aR.o;unfold Ck at kR;have kY:=Hd hW;clear hW bC bL aZ KO;rw[<-eA.o]at kR;have KO:=Hd kR;clear kR;go_wp2_with fail;refine hK.out _ _ (hL.o _ hG.o) (fun hB=>?_);clear hK Kx;try simp only[Act.put,Az,Ba,Bb]
  refine wpAnyH_ready (rs:=[15]) (by kernel_rfl) (by simp) ?_;refine AllReadyH.cons (sd (some 175) rfl) (fun Kx hK=>?_) AllReadyH.nil;go_simp;refine KO.o.mono ?_;rintro r w8 ⟨dS,rfl,bJ,bD,bM,aE⟩;have hP:Z9 (Ad (fun x=>x=sb\/x=wk) w6 w8):=Hd (hG.o.trans aE fun x h=>.inl h);have hW:An (fun x=>K x\/w6.heap.size<=x) w8 T0 dR:=by
   rw[dZ.o];exact kY.o.but aE fun x hx=>⟨fun h=>by
    have h1:=(hX.o w6 hC.o).size;have h2:=HZ.o.2 sb HZ.o.1.1;have h3:=HZ.o.2 wk HZ.o.1.2;have h4:w6.drew.heap.size=w6.heap.size:=rfl;rcases hx with hx|hx
    ·exact h.elim (hF.o x hx).2.1 (hF.o x hx).2.2
    ·rcases h with h|h <;> omega,hx⟩
  have hM:An (fun x=>K x\/w6.heap.size<=x) w8 T1 dS:=bJ.weak fun x hx=>hx.imp id fun h=>by have:=hG.o.size;omega
  have aN:=Hd bD;have cU:=Hd bM;clear bJ bD bM aE KO;obtain⟨k7,s7,n7,bU,aV,bW⟩:=T0;obtain⟨k8,s8,n8,bV,aW,bX⟩:=T1;obtain⟨A7,c7,B7,d7,C7,e7,rfl,-⟩:=hW.inv;obtain⟨A8,c8,B8,d8,C8,e8,rfl,-⟩:=hM.inv;simp only[Ao]at hW hM ⊢;have kY:=Hd hW;have cQ:=Hd hM;clear hW hM;go_wp2_with fail;refine hK.out _ _ (hL.o _ hP.o) (fun hB=>?_);clear hK Kx;try simp only[Act.put,Az,Ba,Bb]
  refine wpAnyH_ready (rs:=[16]) (by kernel_rfl) (by simp) ?_;refine AllReadyH.cons (sd (some 176) rfl) (fun Kx hK=>?_) AllReadyH.nil;go_simp;generalize aA:World.alloc w8 (.cells #[.int .i64 k7,.string s7,.int .i64 n7,.slice A7 bU.length c7,.slice B7 aV.length d7,.slice C7 bW.length e7,.int .i64 k8,.string s8,.int .i64 n8,.slice A8 bV.length c8,.slice B8 aW.length d8,.slice C8 bX.length e8] 26)=w9;have bA:Below w8.heap.size w8 w9:=by rw[<-aA];exact (Below.refl _ _).alloc (Nat.le_refl _) _
  have aJ:w9.heap[w8.heap.size]?=some (.cells #[.int .i64 k7,.string s7,.int .i64 n7,.slice A7 bU.length c7,.slice B7 aV.length d7,.slice C7 bW.length e7,.int .i64 k8,.string s8,.int .i64 n8,.slice A8 bV.length c8,.slice B8 aW.length d8,.slice C8 bX.length e8] 26 (0,0)):=by rw[<-aA];exact heap_alloc_new w8 _
  obtain⟨rb,aH⟩:∃rb,rb=w8.heap.size:=⟨_,rfl⟩;rw[<-aH]at aJ ⊢;have cR:=Hd aH;have kG:=Hd bA;have cY:=Hd aJ;clear aA bA aJ aH;have hQ:Z9 (Ad (fun x=>x=sb\/x=wk) w6 w9):=Hd (hP.o.then kG.o);have kT:=hQ.o.up hD.o kP.o;have cO:=Hd kT;have y3:=Ch kT 3;have v3:=Lib.frozen_of_heap kT 3;simp only[List.getElem?_toArray,List.getElem?_cons_zero,List.getElem?_cons_succ]at y3;clear kT;refine hK.out _ _ (hL.o _ hQ.o) (fun hB=>?_);clear hK Kx;try simp only[Act.put,Az,Ba,Bb]
  refine Ab.s [17] ?_;refine Ab.k (so rfl) hB ?_;try simp only[Act.put,Az,Ba,Bb]
  refine Ab.d ?_;refine wpAnyH_ready (rs:=[18]) (by kernel_rfl) (by simp) ?_;refine AllReadyH.cons (sd none rfl) (fun Kx hK=>?_) AllReadyH.nil;go_simp;clear y3 v3;obtain⟨wq,kV⟩:∃x,x=w9.setCell ⟨g2,3,none⟩ (.slice (some ⟨rb,0,none⟩) 2 2):=⟨_,rfl⟩;have hT:Ad (fun x=>x=g2) w9 wq:=by rw[kV];exact (Ad.refl (fun x=>x=g2) w9).put1 3 _
  have bT:wq.heap[g2]?=some (.cells #[.int .i64 20,.string s,.int .i64 n,(.slice (some ⟨rb,0,none⟩) 2 2),.slice B 0 d,.slice C 0 e] 26 (0,0)):=by rw[kV];exact C0 cO.o 3 _
  have hR:=Hd hT;have kH:Z9 (Ad (fun x=>x=sb\/x=wk) w1 wq):=Hd (((hC.o.trans hQ.o fun x h=>.inl h)).trans hT fun x h=>.inr (by have h1:=hI.o;have e:x=g2:=h;omega));rw[<-kV];have aT:=Hd bT;clear kV hT bT;refine hK.out _ _ ⟨(HX.o wq kH.o).2.2.2.1,(Dw aT.o).2.1⟩ (fun hB=>?_);clear hK Kx;try simp only[Act.put,Az,Ba,Bb]
  refine wpAnyH_done (by kernel_rfl) ?_ _;clear hB;have rbx:=HY.o _ kH.o;obtain⟨x0,x1,x2,x3,x4,x5⟩:=Dw aT.o;obtain⟨q0,q1,q2,q3,q4,q5,z0,z1,z2,z3,z4,z5⟩:=Hr rbx;have RBX:=Hd rbx;clear rbx;go_wp2_with fail;obtain⟨r0,r1,r2,r3,r4,r5⟩:=Dw (Bt RBX.o (.int .i64 20) (.string s) (.int .i64 n) ((.slice (some ⟨rb,0,none⟩) 2 2)) (.slice B 0 d) (.slice C 0 e));clear q0 q1 q2 q3 q4 q5 z0 z1 z2 z3 z4 z5;refine bodyPost_ret (v:=.agg #[.int .i64 20,.string s,.int .i64 n,(.slice (some ⟨rb,0,none⟩) 2 2),.slice B 0 d,.slice C 0 e]) (by simp[results,Tryz.results43,go_sem,r0,r1,r2,r3,r4,r5]) rfl ?_;clear r0 r1 r2 r3 r4 r5;have kO:=Di wq g (.int .i64 20) (.string s) (.int .i64 n) ((.slice (some ⟨rb,0,none⟩) 2 2)) (.slice B 0 d) (.slice C 0 e);have h1:=HCN.o;have h2:=cM.o;have h3:=HG.o;have h4:=hI.o;have h5:=hZ.o;have h6:=cR.o;have h7:=cH.o.size;have h8:=hP.o.size;have dL:=HZ.o.2 sb HZ.o.1.1;have dP:=HZ.o.2 wk HZ.o.1.2;have h9:=(Array.getElem?_eq_some_iff.1 kP.o).1;refine aP.o _ _ ⟨[.int .i64 20,.string s,.int .i64 n,(.slice (some ⟨rb,0,none⟩) 2 2),.slice B 0 d,.slice C 0 e],rfl,?_,by rw[<-h1];exact kO.up (by show ¬ wk=g;omega) (hR.o.up (fun e=>hD.o (.inr e.symm)) (Ay kG.o (Array.getElem?_eq_some_iff.1 aN.o).1 aN.o)),?_,D3 HB1.o kH.o HG.o kO⟩
  ·rw[dY.o];obtain⟨b2,o2,r2,-⟩:=dU.o _ kH.o;obtain⟨b3,o3,r3,-⟩:=eB.o _ kH.o;have hl:=S4 (kY.o.later kG.o) (cQ.o.later kG.o) cY.o;have dJ:=(hl.but (K':=fun x=>(K x\/w6.heap.size<=x)\/x=rb) hR.o fun x hx=>⟨fun e=>by
    have e:x=g2:=e;rcases hx with (hx|hx)|hx
    ·have:=(hF.o x hx).1;omega
    ·omega
    ·omega,hx⟩).but (K':=fun x=>K x\/w.heap.size<=x) kO fun x hx=>⟨fun e=>by
    have e:x=g:=e;rcases hx with (hx|hx)|hx
    ·have:=(hF.o x hx).1;omega
    ·omega
    ·omega,by
    rcases hx with (hx|hx)|hx
    ·exact .inl hx
    ·exact .inr (by omega)
    ·exact .inr (by omega)⟩
   have hr:=An.of (k:=20) (n:=n) (fs:=[]) (vs:=[]) (A':=B) (c':=d) (A'':=C) (c'':=e) cV.o dJ ⟨b2,o2,⟨r2.le,r2.big,r2.none,fun h=>absurd h (by simp)⟩,fun i h=>absurd h (by simp)⟩ ⟨b3,o3,⟨r3.le,r3.big,r3.none,fun h=>absurd h (by simp)⟩,fun i h=>absurd h (by simp)⟩;exact hr
  ·have h6':=(cU.o.but (Ad.of_below (O:=fun _=>False) kG.o) (fun h=>h) (fun x h=>h.elim) fun _ _ h=>h).but hR.o (fun e=>hD.o (.inl e.symm)) (fun x h=>.inl (.inr (.inr h))) fun x hx e=>by have h6:=(hF.o x hx).1;have e:x=g2:=e;omega
   exact (h6'.but kO (fun e=>by have e:sb=g:=e;omega) (fun x h=>.inl (.inr (.inl h))) fun x hx e=>by have h6:=(hF.o x hx).1;have e:x=g:=e;omega).more fun x h=>.inl (.inl h)
 ·rw[show (true && decide (n0=s))=false by simp[hq],if_neg (by decide)]at lk;go_upto_region 11 with fail
  clear c0 c1 lk hz x0 x1 x2 x3 x4 x5;rw[<-eC.o];obtain⟨x0,x1,x2,x3,x4,x5⟩:=HX.o w2 dT.o;go_upto_region 12 with fail
  clear x0 x1 x2 x3 x4 x5;rw[<-eD.o,<-dW.o];obtain⟨x0,x1,x2,x3,x4,x5⟩:=HX.o w3 hH.o;go_upto_region 26 with fail
  clear x0 x1 x2 x3 x4 x5;refine wp_region_held_drew (S:=(fun w'=>w'.cell? ⟨bp,op+1,none⟩=some (.string s)/\w'.cell? ⟨bp,op+3,none⟩=some (.slice (some ⟨tb,tq,none⟩) 2 c)/\w'.cell? ⟨tb,tq+6,none⟩=some (.int .i64 k1)/\w'.cell? ⟨tb,tq+6+1,none⟩=some (.string s1)/\w'.cell? ⟨tb,tq+6+2,none⟩=some (.int .i64 nn1)/\w'.cell? ⟨tb,tq+6+3,none⟩=some (.slice A1 kM.length cc1)/\w'.cell? ⟨tb,tq+6+4,none⟩=some (.slice B1 kL.length d1)/\w'.cell? ⟨tb,tq+6+5,none⟩=some (.slice C1 kN.length e1))) (by kernel_rfl) (hY.o _ (hH.o.then (Below.refl _ _).drew)) (fun hB=>?_);refine Ab.s [0,1,2,3,5,6,7,8,9,10,11] ?_
  iterate 11 (refine Ab.k (so rfl) hB ?_;try simp only[Act.put,Az,Ba,Bb])
  refine Ab.d ?_;refine wpAnyH_ready (rs:=[4]) (by kernel_rfl) (by simp) ?_;refine AllReadyH.cons (sd (some 145) rfl) (fun Kx hK=>?_) AllReadyH.nil;go_simp;generalize kZ:World.drew (World.alloc w3 (.cells #[.string s] 9))=w4;have kB:Below w3.heap.size w3 w4:=by rw[<-kZ];exact ((Below.refl _ _).alloc (Nat.le_refl _) _).drew
  have kW:w4.heap[w3.heap.size]?=some (.cells #[.string s] 9 (0,0)):=by rw[<-kZ];exact heap_alloc_new w3 _
  obtain⟨nb,aG⟩:∃nb,nb=w3.heap.size:=⟨_,rfl⟩;rw[<-aG]at kW ⊢;have cN:=Hd aG;have kF:=Hd kB;have cX:=Hd kW;have kA:Ad (fun x=>x=sb\/x=wk) w w4:=(hX.o w3 hH.o).then kB;have bG:Cm w4 [s] (some ⟨nb,0,none⟩):=⟨nb,0,fun _=>rfl,by show 1<=_;omega,fun i hi=>by
   obtain rfl:i=0:=by simp at hi;omega
   rw[Ch kW];rfl⟩
  have hV:=(cP.o w4 (hH.o.then kB)).2;have bK:=dX.o.but (Ad.of_below (O:=fun _=>False) kB) (fun h=>h) (fun x h=>h.elim) fun _ _ h=>h;have aU:=Kj (K:=K) (Kt:=K) (c:=1) bG (fun b o e=>by injection e with e;injection e with e _ _;have h1:=hN.o;have h2:=HZ.o.2 sb HZ.o.1.1;omega) (Nat.succ_pos _) hV (fun x hx=>Nat.lt_of_lt_of_le (hF.o x hx).1 kA.size) (fun x hx=>⟨Nat.lt_of_lt_of_le (hF.o x hx).1 kA.size,(hF.o x hx).2⟩) (bZ.o w4 kA) bK (.inl HZ.o.1.1) (fun x h=>by
   have h1:=kB.size;have h2:=hN.o;have h3:=hZ.o;rcases h with h|h|h
   ·have:=HZ.o.2 x h;omega
   ·omega
   ·omega) (by have h1:=HZ.o.2 wk HZ.o.1.2;have h2:=kA.size;omega) ⟨kC.o.2.1,kC.o.2.2.2,by have:=aK.o;omega⟩ dV.o (fun x hx=>Nat.le_trans (M9 _ _ hV x (Sr x _ hx)) (by decide)) aO.o
  have KE:=Hd aU;have eL:=Hd kA;clear kZ kB kW aG kA bG hV bK aU;refine hK.out _ _ (hY.o _ (hH.o.then kF.o)) (fun hB=>?_);clear hK Kx;try simp only[Act.put,Az,Ba,Bb]
  refine wpAnyH_ready (rs:=[12]) (by kernel_rfl) (by simp) ?_;refine AllReadyH.cons (sd (some 153) rfl) (fun Kx hK=>?_) AllReadyH.nil;go_simp;refine KE.o.mono ?_;rintro r w5 ⟨m',rfl,aX,aY,aD,bH⟩;have cK:=Hd aX;have cS:=Hd aY;have kX:=Hd aD;have kD:Z9 (Ad (fun x=>x=sb\/x=wk) w1 w5):=Hd ((hH.o.then kF.o).trans aD fun x h=>.inl (.inl h));clear aX aY aD KE;go_wp2_with fail;refine hK.out _ _ (hY.o _ kD.o) (fun hB=>?_);clear hK Kx;try simp only[Act.put,Az,Ba,Bb]
  refine Ab.s [13,14,15,16,17] ?_
  iterate 5 (refine Ab.k (so rfl) hB ?_;try simp only[Act.put,Az,Ba,Bb])
  refine Ab.d ?_;refine wpAnyH_done (by kernel_rfl) ?_ _;clear hB;have aI:=(kX.o.up (by have h1:=hD.o;show ¬ g2=sb;omega) (Ay kF.o (Array.getElem?_eq_some_iff.1 cB.o).1 cB.o));have bI:=kX.o.up (by have h1:=cN.o;have h2:=HZ.o.2 sb HZ.o.1.1;have h3:=hN.o;show ¬ nb=sb;omega) cX.o;have bB:=kX.o.up (fun e=>aL.o e) (Ay kF.o (Array.getElem?_eq_some_iff.1 bY.o).1 bY.o);obtain⟨w6,kU⟩:∃x,x=w5.setCell ⟨g2,1,none⟩ (.string s):=⟨_,rfl⟩;have hJ:Ad (fun x=>x=g2) w5 w6:=by rw[kU];exact (Ad.refl (fun x=>x=g2) w5).put1 1 _
  have bS:w6.heap[g2]?=some (.cells #[.int .i64 20,.string s,.int .i64 n,.slice (some ⟨tb,tq,none⟩) 2 c,.slice B 0 d,.slice C 0 e] 26 (0,0)):=by rw[kU];exact C0 aI 1 _
  have kP:=Hd bS;have cJ:=Hd (hJ.up (fun e=>hD.o (.inr e.symm)) bB);have cT:Z9 (Cg K (fun x=>Z x\/x=g\/x=g2) w6 sb u nd):=Hd (cS.o.but hJ (fun e=>hD.o (.inl e.symm)) (fun x h=>.inl (.inr (.inr h))) fun x hx e=>by have h1:=(hF.o x hx).1;have h2:=hI.o;have h3:=HG.o;have e:x=g2:=e;omega);have hC:Z9 (Ad (fun x=>x=sb\/x=wk) w1 w6):=Hd (kD.o.trans hJ fun x h=>.inr (by have h1:=hI.o;have e:x=g2:=h;omega));have cL:Z9 (∀wx,Ad (fun x=>x=sb\/x=wk) w6 wx->Ct wk sb n0 wx m' (Bx n0 (.mk k1 s1 nn1 kM kL kN) && !Dp [s] n0)):=Hd fun wx hx=>cK.o.butM ((hJ.mono (O':=fun x=>x=g2\/x=sb\/x=wk) fun x h=>.inl h).trans hx fun x h=>.inl (.inr h)) fun x h=>by
   rcases h with h|h|h
   ·exact .inr (.inr (.inr fun e=>by have h1:=bH x e;have h2:=kF.o.size;have h3:=hZ.o;omega))
   ·exact .inr (.inl h)
   ·exact .inl h
  have cW:=Hd kU;have y0:=Ch bI 0;simp only[List.getElem?_toArray,List.getElem?_cons_zero]at y0;obtain⟨q0,q1,q2,q3,q4,q5,z0,z1,z2,z3,z4,z5⟩:=Hr aI;clear aI bI bB kU hJ bS bH;go_upto_region 28 with fail
  rw[<-cW.o];clear y0 q0 q1 q2 q3 q4 q5 z0 z1 z2 z3 z4 z5;have cH:Z9 (Ad (fun x=>x=sb\/x=wk) w w6):=Hd (hX.o w6 hC.o);have kI:Z9 (∀wx,Ad (fun x=>x=sb\/x=wk) w6 wx->∀x,(Z x\/x=g\/x=g2)->x<wx.heap.size):=Hd fun wx hx x h=>by
   have h1:=(hX.o w6 hC.o).size;have h2:=hx.size;have h3:=hN.o;have h4:=(Array.getElem?_eq_some_iff.1 kP.o).1;have h5:=hI.o;rcases h with h|h|h
   ·have:=HZ.o.2 x h;omega
   ·omega
   ·omega
  have kS:Ad (fun x=>x=sb\/x=wk) w1 w6.drew:=hC.o.then (Below.refl _ _).drew;have hU:Ad (fun x=>x=sb\/x=wk) w6 w6.drew:=(Ad.refl _ _).then (Below.refl _ _).drew;have kQ:=cA.o.1 K (fun x=>Z x\/x=g\/x=g2) wk sb nd w6.drew tb tq m true n1 (cC.o _ kS).1 aS.o.2 (fun x hx=>⟨Nat.lt_of_lt_of_le (hF.o x hx).1 (hX.o _ kS).size,(hF.o x hx).2⟩) (bZ.o _ (hX.o _ kS)) (cT.o.but (Ad.of_below (O:=fun _=>False) (Below.refl _ _).drew) (fun h=>h) (fun x h=>h.elim) fun _ _ h=>h) (.inl HZ.o.1.1) (.inl HZ.o.1.2) (kI.o _ hU) cJ.o aL.o (by have:=aK.o;omega) ⟨kC.o.1,kC.o.2.2.1⟩ (fun _=>aQ.o trivial);unfold Ck at kQ;rw[if_pos rfl]at kQ;have KO:=Hd kQ;have hL:Z9 (∀wx,Ad (fun x=>x=sb\/x=wk) w6 wx->wx.cell? ⟨bp,op+3,none⟩=some (.slice (some ⟨tb,tq,none⟩) 2 c)/\wx.cell? ⟨g2,1,none⟩=some (.string s)):=Hd fun wx hx=>⟨(HX.o wx (hC.o.trans hx fun x h=>.inl h)).2.2.2.1,(Dw (hx.up hD.o kP.o)).2.1⟩;clear kS kQ;refine wp_region_held_drew (S:=(fun w'=>w'.cell? ⟨bp,op+3,none⟩=some (.slice (some ⟨tb,tq,none⟩) 2 c)/\w'.cell? ⟨g2,1,none⟩=some (.string s))) (by kernel_rfl) (hL.o _ hU) (fun hB=>?_);clear hU;refine Ab.s [0,1,2,3,4,5,6,8,9,10,11,12,13,14] ?_
  iterate 14 (refine Ab.k (so rfl) hB ?_;try simp only[Act.put,Az,Ba,Bb])
  refine Ab.d ?_;refine wpAnyH_ready (rs:=[7]) (by kernel_rfl) (by simp) ?_;refine AllReadyH.cons (sd (some 167) rfl) (fun Kx hK=>?_) AllReadyH.nil;go_simp;refine KO.o.mono ?_;rintro r w7 ⟨dR,rfl,hW,bC,bL,aZ⟩;have hG:Z9 (Ad (fun x=>x=sb\/x=wk) w6 w7):=Hd (Ad.from (Below.refl w6.heap.size w6).drew aZ);have kE:Z9 (Ad (fun x=>x=sb\/x=wk) w1 w7):=Hd (hC.o.trans hG.o fun x h=>.inl h);have kR:=cA.o.2 K (fun x=>Z x\/x=g\/x=g2) wk sb nd w7 tb (tq+6) m' (Bx n0 (.mk k1 s1 nn1 kM kL kN) && !Dp [s] n0) (n1+Am p0) (cC.o _ kE.o).2 aS.o.2 (fun x hx=>⟨Nat.lt_of_lt_of_le (hF.o x hx).1 (hX.o _ kE.o).size,(hF.o x hx).2⟩) (cL.o _ hG.o) bL (.inl HZ.o.1.1) (.inl HZ.o.1.2) (kI.o _ hG.o) bC aL.o (by have:=aK.o;omega) ⟨kC.o.2.1,kC.o.2.2.2⟩ aR.o;unfold Ck at kR;have kY:=Hd hW;clear hW bC bL aZ KO;rw[<-eA.o]at kR;have KO:=Hd kR;clear kR;go_wp2_with fail;refine hK.out _ _ (hL.o _ hG.o) (fun hB=>?_);clear hK Kx;try simp only[Act.put,Az,Ba,Bb]
  refine wpAnyH_ready (rs:=[15]) (by kernel_rfl) (by simp) ?_;refine AllReadyH.cons (sd (some 175) rfl) (fun Kx hK=>?_) AllReadyH.nil;go_simp;refine KO.o.mono ?_;rintro r w8 ⟨dS,rfl,bJ,bD,bM,aE⟩;have hP:Z9 (Ad (fun x=>x=sb\/x=wk) w6 w8):=Hd (hG.o.trans aE fun x h=>.inl h);have hW:An (fun x=>K x\/w6.heap.size<=x) w8 T0 dR:=by
   rw[dZ.o];exact kY.o.but aE fun x hx=>⟨fun h=>by
    have h1:=(hX.o w6 hC.o).size;have h2:=HZ.o.2 sb HZ.o.1.1;have h3:=HZ.o.2 wk HZ.o.1.2;have h4:w6.drew.heap.size=w6.heap.size:=rfl;rcases hx with hx|hx
    ·exact h.elim (hF.o x hx).2.1 (hF.o x hx).2.2
    ·rcases h with h|h <;> omega,hx⟩
  have hM:An (fun x=>K x\/w6.heap.size<=x) w8 T1 dS:=bJ.weak fun x hx=>hx.imp id fun h=>by have:=hG.o.size;omega
  have aN:=Hd bD;have cU:=Hd bM;clear bJ bD bM aE KO;obtain⟨k7,s7,n7,bU,aV,bW⟩:=T0;obtain⟨k8,s8,n8,bV,aW,bX⟩:=T1;obtain⟨A7,c7,B7,d7,C7,e7,rfl,-⟩:=hW.inv;obtain⟨A8,c8,B8,d8,C8,e8,rfl,-⟩:=hM.inv;simp only[Ao]at hW hM ⊢;have kY:=Hd hW;have cQ:=Hd hM;clear hW hM;go_wp2_with fail;refine hK.out _ _ (hL.o _ hP.o) (fun hB=>?_);clear hK Kx;try simp only[Act.put,Az,Ba,Bb]
  refine wpAnyH_ready (rs:=[16]) (by kernel_rfl) (by simp) ?_;refine AllReadyH.cons (sd (some 176) rfl) (fun Kx hK=>?_) AllReadyH.nil;go_simp;generalize aA:World.alloc w8 (.cells #[.int .i64 k7,.string s7,.int .i64 n7,.slice A7 bU.length c7,.slice B7 aV.length d7,.slice C7 bW.length e7,.int .i64 k8,.string s8,.int .i64 n8,.slice A8 bV.length c8,.slice B8 aW.length d8,.slice C8 bX.length e8] 26)=w9;have bA:Below w8.heap.size w8 w9:=by rw[<-aA];exact (Below.refl _ _).alloc (Nat.le_refl _) _
  have aJ:w9.heap[w8.heap.size]?=some (.cells #[.int .i64 k7,.string s7,.int .i64 n7,.slice A7 bU.length c7,.slice B7 aV.length d7,.slice C7 bW.length e7,.int .i64 k8,.string s8,.int .i64 n8,.slice A8 bV.length c8,.slice B8 aW.length d8,.slice C8 bX.length e8] 26 (0,0)):=by rw[<-aA];exact heap_alloc_new w8 _
  obtain⟨rb,aH⟩:∃rb,rb=w8.heap.size:=⟨_,rfl⟩;rw[<-aH]at aJ ⊢;have cR:=Hd aH;have kG:=Hd bA;have cY:=Hd aJ;clear aA bA aJ aH;have hQ:Z9 (Ad (fun x=>x=sb\/x=wk) w6 w9):=Hd (hP.o.then kG.o);have kT:=hQ.o.up hD.o kP.o;have cO:=Hd kT;have y3:=Ch kT 3;have v3:=Lib.frozen_of_heap kT 3;simp only[List.getElem?_toArray,List.getElem?_cons_zero,List.getElem?_cons_succ]at y3;clear kT;refine hK.out _ _ (hL.o _ hQ.o) (fun hB=>?_);clear hK Kx;try simp only[Act.put,Az,Ba,Bb]
  refine Ab.s [17] ?_;refine Ab.k (so rfl) hB ?_;try simp only[Act.put,Az,Ba,Bb]
  refine Ab.d ?_;refine wpAnyH_ready (rs:=[18]) (by kernel_rfl) (by simp) ?_;refine AllReadyH.cons (sd none rfl) (fun Kx hK=>?_) AllReadyH.nil;go_simp;clear y3 v3;obtain⟨wq,kV⟩:∃x,x=w9.setCell ⟨g2,3,none⟩ (.slice (some ⟨rb,0,none⟩) 2 2):=⟨_,rfl⟩;have hT:Ad (fun x=>x=g2) w9 wq:=by rw[kV];exact (Ad.refl (fun x=>x=g2) w9).put1 3 _
  have bT:wq.heap[g2]?=some (.cells #[.int .i64 20,.string s,.int .i64 n,(.slice (some ⟨rb,0,none⟩) 2 2),.slice B 0 d,.slice C 0 e] 26 (0,0)):=by rw[kV];exact C0 cO.o 3 _
  have hR:=Hd hT;have kH:Z9 (Ad (fun x=>x=sb\/x=wk) w1 wq):=Hd (((hC.o.trans hQ.o fun x h=>.inl h)).trans hT fun x h=>.inr (by have h1:=hI.o;have e:x=g2:=h;omega));rw[<-kV];have aT:=Hd bT;clear kV hT bT;refine hK.out _ _ ⟨(HX.o wq kH.o).2.2.2.1,(Dw aT.o).2.1⟩ (fun hB=>?_);clear hK Kx;try simp only[Act.put,Az,Ba,Bb]
  refine wpAnyH_done (by kernel_rfl) ?_ _;clear hB;have rbx:=HY.o _ kH.o;obtain⟨x0,x1,x2,x3,x4,x5⟩:=Dw aT.o;obtain⟨q0,q1,q2,q3,q4,q5,z0,z1,z2,z3,z4,z5⟩:=Hr rbx;have RBX:=Hd rbx;clear rbx;go_wp2_with fail;obtain⟨r0,r1,r2,r3,r4,r5⟩:=Dw (Bt RBX.o (.int .i64 20) (.string s) (.int .i64 n) ((.slice (some ⟨rb,0,none⟩) 2 2)) (.slice B 0 d) (.slice C 0 e));clear q0 q1 q2 q3 q4 q5 z0 z1 z2 z3 z4 z5;refine bodyPost_ret (v:=.agg #[.int .i64 20,.string s,.int .i64 n,(.slice (some ⟨rb,0,none⟩) 2 2),.slice B 0 d,.slice C 0 e]) (by simp[results,Tryz.results43,go_sem,r0,r1,r2,r3,r4,r5]) rfl ?_;clear r0 r1 r2 r3 r4 r5;have kO:=Di wq g (.int .i64 20) (.string s) (.int .i64 n) ((.slice (some ⟨rb,0,none⟩) 2 2)) (.slice B 0 d) (.slice C 0 e);have h1:=HCN.o;have h2:=cM.o;have h3:=HG.o;have h4:=hI.o;have h5:=hZ.o;have h6:=cR.o;have h7:=cH.o.size;have h8:=hP.o.size;have dL:=HZ.o.2 sb HZ.o.1.1;have dP:=HZ.o.2 wk HZ.o.1.2;have h9:=(Array.getElem?_eq_some_iff.1 kP.o).1;refine aP.o _ _ ⟨[.int .i64 20,.string s,.int .i64 n,(.slice (some ⟨rb,0,none⟩) 2 2),.slice B 0 d,.slice C 0 e],rfl,?_,by rw[<-h1];exact kO.up (by show ¬ wk=g;omega) (hR.o.up (fun e=>hD.o (.inr e.symm)) (Ay kG.o (Array.getElem?_eq_some_iff.1 aN.o).1 aN.o)),?_,D3 HB1.o kH.o HG.o kO⟩
  ·rw[dY.o];obtain⟨b2,o2,r2,-⟩:=dU.o _ kH.o;obtain⟨b3,o3,r3,-⟩:=eB.o _ kH.o;have hl:=S4 (kY.o.later kG.o) (cQ.o.later kG.o) cY.o;have dJ:=(hl.but (K':=fun x=>(K x\/w6.heap.size<=x)\/x=rb) hR.o fun x hx=>⟨fun e=>by
    have e:x=g2:=e;rcases hx with (hx|hx)|hx
    ·have:=(hF.o x hx).1;omega
    ·omega
    ·omega,hx⟩).but (K':=fun x=>K x\/w.heap.size<=x) kO fun x hx=>⟨fun e=>by
    have e:x=g:=e;rcases hx with (hx|hx)|hx
    ·have:=(hF.o x hx).1;omega
    ·omega
    ·omega,by
    rcases hx with (hx|hx)|hx
    ·exact .inl hx
    ·exact .inr (by omega)
    ·exact .inr (by omega)⟩
   have hr:=An.of (k:=20) (n:=n) (fs:=[]) (vs:=[]) (A':=B) (c':=d) (A'':=C) (c'':=e) cV.o dJ ⟨b2,o2,⟨r2.le,r2.big,r2.none,fun h=>absurd h (by simp)⟩,fun i h=>absurd h (by simp)⟩ ⟨b3,o3,⟨r3.le,r3.big,r3.none,fun h=>absurd h (by simp)⟩,fun i h=>absurd h (by simp)⟩;exact hr
  ·have h6':=(cU.o.but (Ad.of_below (O:=fun _=>False) kG.o) (fun h=>h) (fun x h=>h.elim) fun _ _ h=>h).but hR.o (fun e=>hD.o (.inl e.symm)) (fun x h=>.inl (.inr (.inr h))) fun x hx e=>by have h6:=(hF.o x hx).1;have e:x=g2:=e;omega
   exact (h6'.but kO (fun e=>by have e:sb=g:=e;omega) (fun x h=>.inl (.inr (.inl h))) fun x hx e=>by have h6:=(hF.o x hx).1;have e:x=g:=e;omega).more fun x h=>.inl (.inl h)
