import Derived.Test.YtlpfpehegddcfaaGreatDoorMx34
namespace Go.Proofs.YtlpfpehegddcfaaGreatDoor
set_option maxRecDepth 100000
set_option maxHeartbeats 64000000
open Go.RowKit
structure LoO (P Z' K:Nat->Prop) (u:Ty) (wk sb nd g2:Nat) (X:Array Value) (A6:Option Addr) (c6:Nat) (w1 wr:World) (a:Nat) (S:Bx):Prop where
 cnt:wr.heap[wk]?=some (.cells #[.int .i64 (a:Int)] 85 (0,0))
 o:wr.heap[g2]?=some (.cells X 26 (0,0))
 row:Nn P wr g2 A6 c6 S
 sta:Ce K Z' wr sb u nd
 but:Ad (fun x=>x=sb\/x=wk) w1 wr
theorem Oy {Cc:Prop}{n0:Z8}{u:Ty}{K Z:Nat->Prop}{wk sb nd:Nat}{w:World}{bp op a:Nat}{m:Option Nat}{n:Int}{s:Z8}{fs:Bx}(ha:De K w (.mk 14 s n [] fs []) bp op) (cS:bp≠sb/\bp≠wk) (hK:∀x,K x->x<w.heap.size/\x≠sb/\x≠wk) (hE:Cp wk sb n0 w m true) (hS:Ce K Z w sb u nd) (bW:Z sb) (bE:Z wk) (bV:∀x,Z x->x<w.heap.size) (cD:w.heap[wk]?=some (.cells #[.int .i64 (a:Int)] 85 (0,0))) (cF:wk≠sb) (cT:a+Am (.mk 14 s n [] fs [])<=4096) (bZ:Aj (.mk 14 s n [] fs [])=true/\Dk (.mk 14 s n [] fs [])=true) (_hnd:(nd=1/\Am u=1/\Cc)\/Bp n0 (.mk 14 s n [] fs [])=false) (cV:∀f∈fs,true=true->(nd=1/\Am u=1/\Cc)\/Bp n0 f.2.2=false) (cX:Bh n0 u (.mk 14 s n [] fs [])=.mk 14 s n [] (fs.map (fun f:Z8×Int×Ty=>(f.1,f.2.1,Bh n0 u f.2.2))) []) (ih:∀f∈fs,Jg Cc n0 u f.2.2) :
  Calls Tryz.prog 43 #[.pointer (some ⟨wk,0,none⟩),.pointer (some ⟨bp,op,none⟩),.map m] w (Ci n0 u K Z wk sb nd w true a (.mk 14 s n [] fs [])):=by
 have kN:Am (.mk 14 s n [] fs [])=1+Bm fs:=by rw[Bu];show 1+(Au []+(Bm fs+Bl []))=_;unfold Au Bl;simp
 have hlf:=Jdd fs;obtain⟨PO,bU⟩:∃PO:Ending->World->Prop,PO=Ci n0 u K Z wk sb nd w true a (.mk 14 s n [] fs []):=⟨_,rfl⟩;have aL:Z9 (∀e w',(∃rs:List Value,e=.returned (.agg rs.toArray)/\Aw (fun x=>K x\/w.heap.size<=x) w' (Bh n0 u (.mk 14 s n [] fs [])) rs/\w'.heap[wk]?=some (.cells #[.int .i64 ((a+Am (.mk 14 s n [] fs []):Nat):Int)] 85 (0,0))/\Ce K Z w' sb u nd/\Ad (fun x=>x=sb\/x=wk) w w')->PO e w'):=Hd fun e w' h=>by
  rw[bU];unfold Ci;rw[if_pos rfl];exact h
 rw[<-bU];have cA:wk<w.heap.size:=(Array.getElem?_eq_some_iff.1 cD).1;have cW:sb<w.heap.size:=bV sb bW;refine Ia ha cS hK ⟨cA,cW⟩ fun A c B d C e w1 g h=>?_;obtain⟨HX,HY,kV,HS1,HG,HW1,HP,bI,cO,bN,kK,dA⟩:=h;have bG:=Hd (Bj kV.o cA cD);have hL:=Hd hK;have cR:=Hd cF;have dB:=Hd bE;have HE:=Hd hE;have bT:=hE.but (Ad.of_below (O:=fun _=>False) kV.o) fun _ h=>h.elim;obtain⟨z,hz,cY⟩:=bT.len;have f1:¬ z=0:=of_decide_eq_false cY;have lk:=bT.look s (Nat.le_trans bN.o (by decide));obtain⟨n1,cU⟩:∃n1,n1=a+1:=⟨_,rfl⟩;obtain⟨w2,aX⟩:∃x,x=w1.setCell ⟨wk,0,none⟩ (.int .i64 ((a:Int)+1)):=⟨_,rfl⟩;have aG:Ad (fun x=>x=wk) w1 w2:=by rw[aX];exact (Ad.refl (fun x=>x=wk) w1).put1 0 _
 have bY:w2.heap[wk]?=some (.cells #[.int .i64 (n1:Int)] 85 (0,0)):=by rw[aX,cU];exact Cw bG.o 0 _
 obtain⟨g2,bF⟩:∃x,x=w2.heap.size:=⟨_,rfl⟩;have cC:w2.heap.size=w1.heap.size:=by rw[aX];simp
 obtain⟨w3,kA⟩:∃x,x=w2.alloc (.cells #[.int .i64 14,.string s,.int .i64 n,.slice A 0 c,.slice B fs.length d,.slice C 0 e] 26):=⟨_,rfl⟩;have bX:Below w2.heap.size w2 w3:=by rw[kA];exact (Below.refl _ _).alloc (Nat.le_refl _) _
 have kE:Ad (fun x=>x=wk) w1 w3:=aG.then bX;have kD:Ad (fun x=>x=wk) w w3:=(Ad.of_below (O:=fun x=>x=wk) kV.o).trans kE fun x h=>.inl h;have kM:Ad (fun x=>x=sb\/x=wk) w1 w3:=kE.mono fun x h=>.inr h;have bA:Z9 (w3.heap[wk]?=some (.cells #[.int .i64 (n1:Int)] 85 (0,0))):=Hd (Bj bX (Array.getElem?_eq_some_iff.1 bY).1 bY);have cM:Z9 (Ce K (fun x=>Z x\/x=g\/x=g2) w3 sb u nd):=Hd ((hS.more fun x h=>h.elim .inl fun e=>.inr (by have h1:=HG.o;have h2:=HS1.o;omega)).but kD (fun h=>cF h.symm) (fun x h=>.inl (.inl (h ▸ bE))) fun x hx=>(hK x hx).2.2);have cZ:Z9 (Cp wk sb n0 w3 m true):=Hd (hE.but kD fun x h=>.inl h);have aN:Z9 (w.heap.size<w3.heap.size/\g<w3.heap.size):=Hd (by have h1:=HS1.o;have h2:=HG.o;have h3:=kM.size;omega);have HZ:Z9 ((Z sb/\Z wk)/\∀x,Z x->x<w.heap.size):=Hd ⟨⟨bW,bE⟩,bV⟩;have cP:=Hd aX;have cG:Z9 (Ad (fun x=>x=sb\/x=wk) w1 w2):=Hd (aG.mono fun x h=>.inr h);have cQ:=Hd kA;have kJ:=Hd kM;have c0:=Ch bG.o 0;have c1:=Lib.frozen_of_heap bG.o 0;simp only[List.getElem?_toArray,List.getElem?_cons_zero]at c0;have t1:decide ((4096:Int)<(a:Int))=false:=decide_eq_false (by omega);have t1':¬ (4096:Int)<(a:Int):=by omega
 have t1'':¬ 4096<a:=by omega
 obtain⟨x0,x1,x2,x3,x4,x5⟩:=HX.o w1 (Ad.refl _ _);have aW:w3.heap.size=g2+1:=by rw[kA,bF];simp
 have bC:Z9 (w3.heap[g2]?=some (.cells #[.int .i64 14,.string s,.int .i64 n,.slice A 0 c,.slice B fs.length d,.slice C 0 e] 26 (0,0))):=Hd (by rw[kA,bF];exact heap_alloc_new w2 _);have cK:=Hd bF;have hY:=Hd aW;have hD:Z9 (w1.heap.size<=g2/\g<g2):=Hd (by have h1:=HS1.o;omega);have hO:Z9 (¬ (g2=sb\/g2=wk)):=Hd (by have h1:=kK.o;have h2:=hD.o;omega);have cI:Z9 (∀wx,Ad (fun x=>x=sb\/x=wk) w wx->Cp wk sb n0 wx m true):=Hd fun wx hx=>hE.but hx fun x h=>h.elim (fun e=>.inr (.inl e)) .inl;have bD:=Hd (Np (bI.o w3 kM) (by omega));have cN:=Hd cX;have cL:=Hd ih;have cJ:Z9 (∀f∈fs,Aj f.2.2=true/\Dk f.2.2=true):=Hd fun f hf=>⟨It (t:=.mk 14 s n [] fs []) bZ.1 f hf,(Fz bZ.2).2.2.2 f hf⟩;have aM:=Hd cV;have HCN:Z9 (n1+Bm fs=a+Am (.mk 14 s n [] fs [])):=Hd (by omega);have cH:=Hd cT;have bB:Z9 (fs.length<=4096):=Hd (by omega);clear ha cS hK hE hS bW bE bV cD cF cT cA cW bU cY bT bZ _hnd ih kN cX cV cU aX aG bY kA bX kE kD kM cC aW bF hlf;go_enter Tryz.func43,Tryz.ntmps43;go_upto_region 1 with fail
 rw[<-HW1.o,<-HG.o];by_cases hq:n0=s
 ·rw[show (true && decide (n0=s))=true by simp[hq],if_pos rfl]at lk;go_upto_region 11 with fail
  clear c0 c1 lk hz x0 x1 x2 x3 x4 x5;rw[<-cP.o];obtain⟨x0,x1,x2,x3,x4,x5⟩:=HX.o w2 cG.o;go_upto_region 12 with fail
  clear x0 x1 x2 x3 x4 x5;rw[<-cQ.o,<-cK.o];obtain⟨x0,x1,x2,x3,x4,x5⟩:=HX.o w3 kJ.o;go_upto_region 17 with fail
  go_wp2_with fail;refine bD.o.mono ?_;rintro e w5 ⟨A6,c6,rfl,hZ,aH⟩;obtain⟨P,hP⟩:∃P:Nat->Prop,P=fun x=>(K x\/w3.heap.size<=x)/\x≠sb/\x≠wk/\A6≠some ⟨x,0,none⟩:=⟨_,rfl⟩;have hX:Z9 (∀x,P x↔(K x\/w3.heap.size<=x)/\x≠sb/\x≠wk/\A6≠some ⟨x,0,none⟩):=Hd fun x=>by rw[hP]
  have kG:Nn P w5 g2 A6 c6 fs:=aH.imp id fun ⟨gp,e1,e2,e3,e4⟩=>⟨gp,e1,by have:=hY.o;omega,e3,e4.weak fun x hx=>by
   have h1:=hL.o x hx;have h2:=aN.o.1;refine (hX.o x).2 ⟨.inl hx,h1.2.1,h1.2.2,fun e=>?_⟩;rw[e1]at e;injection e with e
   injection e with e
   omega⟩
  have aY:Ce K (fun x=>Z x\/x=g\/x=g2\/A6=some ⟨x,0,none⟩) w3 sb u nd:=cM.o.more fun x h=>by
   rcases h with h|h|h|h
   ·exact .inl (.inl h)
   ·exact .inl (.inr (.inl h))
   ·exact .inl (.inr (.inr h))
   ·rcases aH with ⟨-,e1,-⟩|⟨gp,e1,e2,-⟩
    ·rw[e1]at h;cases h
    ·rw[e1]at h;injection h with h;injection h with h;exact .inr (by omega)
  have kB:=Bj hZ (Array.getElem?_eq_some_iff.1 bC.o).1 bC.o;have aQ:=Bj hZ (Array.getElem?_eq_some_iff.1 bA.o).1 bA.o;obtain⟨w6,kU⟩:∃x,x=w5.setCell ⟨g2,4,none⟩ (.slice A6 fs.length c6):=⟨_,rfl⟩;have hH:Ad (fun x=>x=g2) w5 w6:=by rw[kU];exact (Ad.refl (fun x=>x=g2) w5).put1 4 _
  have kH:LoO P (fun x=>Z x\/x=g\/x=g2\/A6=some ⟨x,0,none⟩) K u wk sb nd g2 #[.int .i64 14,.string s,.int .i64 n,.slice A 0 c,.slice A6 fs.length c6,.slice C 0 e] A6 c6 w1 w6 (n1) fs:=by
   refine⟨hH.up (fun e=>hO.o (.inr e.symm)) aQ,by rw[kU];exact Cw kB 4 _,kG.but hH (fun gp h _ e=>by have e:gp=g2:=e;omega) (fun x hx e=>?_),?_,(kJ.o.then hZ).trans hH fun x h=>.inr (by have h1:=hD.o;have e:x=g2:=h;omega)⟩
   ·have e:x=g2:=e;have h1:=((hX.o x).1 hx).1;have h2:=hY.o;have h3:=hD.o;have h4:=HG.o;rcases h1 with h1|h1
    ·have h5:=(hL.o x h1).1;omega
    ·omega
   ·exact (aY.but (Ad.of_below (O:=fun _=>False) hZ) (fun h=>h) (fun x h=>h.elim) fun _ _ h=>h).but hH (fun e=>hO.o (.inl e.symm)) (fun x h=>.inl (.inr (.inr (.inl h)))) fun x hx e=>by have h5:=(hL.o x hx).1;have h6:=hD.o;have h7:=HG.o;have e:x=g2:=e;omega
  have kC:=Hd kH;have bP:=Hd kU;have aF:Z9 (w3.heap.size<=w6.heap.size):=Hd (by have h1:=hZ.size;have h2:=hH.size;omega);obtain⟨q0,q1,q2,q3,q4,q5,z0,z1,z2,z3,z4,z5⟩:=Je kB;clear aH kG kB aQ hZ hH kU kH aY hP bD x0 x1 x2 x3 x4 x5;go_upto_region 18 with fail
  rw[<-bP.o];clear q0 q1 q2 q3 q4 q5 z0 z1 z2 z3 z4 z5;obtain⟨-,-,-,-,b4,-⟩:=D4 kC.o.o;go_wp2_with fail;clear b4
  go_loopw [113] (fun v wr=>∃(i:Nat) (S:Bx),i<=fs.length/\v=.int .i64 i/\LoO P (fun x=>Z x\/x=g\/x=g2\/A6=some ⟨x,0,none⟩) K u wk sb nd g2 #[.int .i64 14,.string s,.int .i64 n,.slice A 0 c,.slice A6 fs.length c6,.slice C 0 e] A6 c6 w1 wr (n1+Bm (fs.take i)) S/\S.length=fs.length/\S.take i=(fs.take i).map (fun f:Z8×Int×Ty=>(f.1,f.2.1,Bh n0 u f.2.2))/\S.drop i=fs.drop i/\w3.heap.size<=wr.heap.size) (fun v _=>fs.length - (intOf v).toNat)
  case atStart=>exact⟨0,fs,Nat.zero_le _,rfl,by simpa [Bm] using kC.o,rfl,rfl,rfl,aF.o⟩
  case round=>
   obtain⟨i,S,hi,rfl,hI,hG,kI,kO,kA⟩:=hrel;have hJ:=Hd hI;have hM:=Hd hG;have bM:=Hd kI;by_cases hB:i<fs.length
   ·have hlp:=bB.o;have t1:decide ((i:Int)<(fs.length:Int))=true:=(by simp;omega);have aZ:wrap64 ((i:Int)+1)=((i+1:Nat):Int):=Ba (by omega);have HM:=Hd (Bg hB);obtain⟨x0,x1,x2,x3,x4,x5⟩:=HX.o _ hI.but;obtain⟨tb,tq,hA,aO,aP⟩:=(bI.o wr hI.but).at (Nat.lt_of_le_of_lt (Nat.zero_le i) hB);subst hA;obtain⟨gp,bS,aU,aR,kS⟩:=hI.row.get (by omega);subst bS;obtain⟨-,-,-,es,aT,kT⟩:=aP i hB;have kR:=cL.o (fs[i]'hB) (List.getElem_mem hB);have kQ:=cJ.o (fs[i]'hB) (List.getElem_mem hB);have hN:=aM.o (fs[i]'hB) (List.getElem_mem hB);have aE:=Hd fun u=>Kr hB hG kO u;have kZ:Z9 (∀h:i<S.length,S[i]'h=fs[i]'hB):=Hd fun _=>Sh hB hG kO;have aA:Z9 (i+1<=fs.length):=Hd hB;have aS:=N1 hB;have kW:Z9 (n1+Bm (fs.take i)+Am (fs[i]'hB).2.2<=4096):=Hd (by have h1:=Mf fs (i+1);have h2:=HCN.o;have h3:=cH.o;omega);have aC:Z9 ((fs.take (i+1)).map (fun f:Z8×Int×Ty=>(f.1,f.2.1,Bh n0 u f.2.2))=(fs.take i).map (fun f:Z8×Int×Ty=>(f.1,f.2.1,Bh n0 u f.2.2))++[(fun f:Z8×Int×Ty=>(f.1,f.2.1,Bh n0 u f.2.2)) (fs[i]'hB)]):=Hd (by rw[List.take_succ_eq_append_getElem hB,List.map_append];rfl);have kY:=Hd aS;have i1:(0:Int)<=(i:Int):=(by omega);have i2:(i:Int)<(fs.length:Int):=(by omega);generalize fs[i]'hB=ff at kT kR kQ hN aE kY kZ kW aC;obtain⟨nm,fl,u0⟩:=ff;dsimp only at kT kR kQ hN aE kY kZ kW aC;clear hlp aS;have kP:Ad (fun x=>x=sb\/x=wk) w wr.drew:=((Ad.of_below (O:=(fun x=>x=sb\/x=wk)) kV.o).trans hI.but fun x h=>.inl h).then (Below.refl _ _).drew;have ko:=kR K (fun x=>Z x\/x=g\/x=g2\/(some (⟨gp,0,none⟩:Addr))=some ⟨x,0,none⟩) wk sb nd wr.drew tb (tq+i*8+2) m true (n1+Bm (fs.take i)) ⟨es,fun j u hj=>Aa (Below.refl _ _).drew (aT j u hj),kT.later (Below.refl _ _).drew⟩ (hL.o tb aO).2 (fun x hx=>⟨Nat.lt_of_lt_of_le (hL.o x hx).1 kP.size,(hL.o x hx).2⟩) (cI.o _ kP) (hI.sta.but (Ad.of_below (O:=fun _=>False) (Below.refl _ _).drew) (fun h=>h) (fun x h=>h.elim) fun _ _ h=>h) (.inl HZ.o.1.1) (.inl HZ.o.1.2) (fun x h=>by
     show x<wr.heap.size;have h1:=kS.lt;have h2:=kP.size;have h3:wr.drew.heap.size=wr.heap.size:=rfl;have h4:=HG.o;have h5:=hI.but.size;have h6:=HS1.o;have h7:=(Array.getElem?_eq_some_iff.1 hI.o).1;rcases h with h|h|h|h
     ·have:=HZ.o.2 x h;omega
     ·omega
     ·omega
     ·injection h with h;injection h with h;omega) hI.cnt cR.o (by have:=kW.o;omega) kQ (fun _=>hN trivial)
    unfold Ci at ko;rw[if_pos rfl]at ko;have KQ:=Hd ko;have hW:Z9 (g2<gp/\gp<wr.heap.size/\w1.heap.size<=gp/\g2<wr.heap.size/\w3.heap.size<=wr.heap.size):=Hd ⟨aU,kS.lt,by have h2:=hD.o;omega,(Array.getElem?_eq_some_iff.1 hI.o).1,kA⟩;have HC:Z9 (∀wx,Ad (fun x=>x=sb\/x=wk\/x=gp) wr wx->wx.cell? ⟨g2,4,none⟩=some (.slice (some ⟨gp,0,none⟩) fs.length c6)/\wx.cell? ⟨bp,op+4,none⟩=some (.slice (some ⟨tb,tq,none⟩) fs.length d)):=Hd fun wx hx=>by
     have h1:=hx.up (by have h1:=hW.o;have h2:=hO.o;show ¬ (g2=sb\/g2=wk\/g2=gp);omega) hJ.o.o;have h2:=HX.o wx (hJ.o.but.trans hx fun x h=>by have:=hW.o;rcases h with h|h|h;exact .inl (.inl h);exact .inl (.inr h);exact .inr (by omega));exact⟨(D4 h1).2.2.2.2.1,h2.2.2.2.2.1⟩
    have bJ:=Hd kS;have bH:=Hd aR;clear kR aT kT kS aR aU hI hi hG kO kI aO aP ko kP kQ hN kA;go_upto_region 21 with fail
    clear x0 x1 x2 x3 x4 x5;refine wp_region_held_drew (S:=(fun w'=>w'.cell? ⟨g2,4,none⟩=some (.slice (some ⟨gp,0,none⟩) fs.length c6)/\w'.cell? ⟨bp,op+4,none⟩=some (.slice (some ⟨tb,tq,none⟩) fs.length d))) (by kernel_rfl) (HC.o _ (Ad.of_below (Below.refl _ _).drew)) (fun hF=>?_);refine Ab.s [0,1,2,3,4,5,6,7,8,9,10,11] ?_
    iterate 12 (refine Ab.k (so rfl) hF ?_;try simp only[Act.put,Bd,Be,Bf])
    refine Ab.d ?_;refine wpAnyH_ready (rs:=[12]) (by kernel_rfl) (by simp) ?_;refine AllReadyH.cons (sd (some 128) rfl) (fun Kx hK=>?_) AllReadyH.nil;go_simp;refine KQ.o.mono ?_;rintro e w6 ⟨rs,rfl,aI,kB,aV,kF⟩;have hV:Z9 (Ad (fun x=>x=sb\/x=wk) wr w6):=Hd (Ad.from (Below.refl wr.heap.size wr).drew kF);have hC:=bJ.o.but hV.o (by have h2:=hW.o;have h3:=kK.o;have h4:=hD.o;show ¬ (gp=sb\/gp=wk);omega) (fun x hx h=>by have h1:=(hX.o x).1 hx;exact h.elim h1.2.1 h1.2.2.1);obtain⟨u1,aK⟩:∃u1,u1=Bh n0 u u0:=⟨_,rfl⟩;rw[<-aK]at aI;have bO:=Hd aK;have aJ:Aw P w6 u1 rs:=aI.weak fun x hx=>by
     have h1:=hW.o;have h2:=HG.o;have h3:=hD.o;have h4:=kK.o;have h5:wr.drew.heap.size=wr.heap.size:=rfl;refine (hX.o x).2 ?_;rcases hx with hx|hx
     ·have h6:=hL.o x hx;exact⟨.inl hx,h6.2.1,h6.2.2,fun e=>by injection e with e;injection e with e;omega⟩
     ·exact⟨.inr (by omega),by omega,by omega,fun e=>by injection e with e;injection e with e;omega⟩
    have bQ:=Hd kB;have bK:=Hd aV;clear aI kB aV kF KQ aK;obtain⟨k6,s6,n6,hT,hQ,hU⟩:=u1;obtain⟨A9,c9,B9,d9,C9,e9,rfl,-⟩:=aJ.inv;simp only[Az]at aJ ⊢;obtain⟨⟨u0',q0⟩,⟨u1',q1⟩,⟨u2',q2⟩,⟨u3',q3⟩,⟨u4',q4⟩,⟨u5',q5⟩⟩:=hC.six (i:=i) (by have h1:=hM.o;have h2:=aA.o;omega);have y0:=hC.free (i*8+2);have y1:=hC.free (i*8+3);have y2:=hC.free (i*8+4);have y3:=hC.free (i*8+5);have y4:=hC.free (i*8+6);have y5:=hC.free (i*8+7);have hR:=hC.set (fun x hx e=>(((hX.o x).1 hx).2.2.2 (by rw[e]):False)) (by have h1:=hM.o;have h2:=aA.o;omega:i<S.length) aJ;rw[kZ.o]at hR;have bR:Z9 (w3.heap.size<=(Ey w6 gp (i*8+2) (.int .i64 k6) (.string s6) (.int .i64 n6) (.slice A9 hT.length c9) (.slice B9 hQ.length d9) (.slice C9 hU.length e9)).heap.size):=Hd (by have h1:=hW.o.2.2.2.2;have h2:=hV.o.size;have h3:Ad (fun x=>x=gp) w6 (Ey w6 gp (i*8+2) (.int .i64 k6) (.string s6) (.int .i64 n6) (.slice A9 hT.length c9) (.slice B9 hQ.length d9) (.slice C9 hU.length e9)):=Fi (Ad.refl _ _) (.inl rfl);have h4:=h3.size;omega);have aB:Z9 (LoO P (fun x=>Z x\/x=g\/x=g2\/(some (⟨gp,0,none⟩:Addr))=some ⟨x,0,none⟩) K u wk sb nd g2 #[.int .i64 14,.string s,.int .i64 n,.slice A 0 c,.slice (some ⟨gp,0,none⟩) fs.length c6,.slice C 0 e] (some (⟨gp,0,none⟩:Addr)) c6 w1 (Ey w6 gp (i*8+2) (.int .i64 k6) (.string s6) (.int .i64 n6) (.slice A9 hT.length c9) (.slice B9 hQ.length d9) (.slice C9 hU.length e9)) (n1+Bm (fs.take (i+1))) (S.set i (nm,fl,.mk k6 s6 n6 hT hQ hU))):=Hd (by
     have h1:=hW.o;have h3:=kK.o;have h4:=hD.o;have hp:Ad (fun x=>x=gp) w6 (Ey w6 gp (i*8+2) (.int .i64 k6) (.string s6) (.int .i64 n6) (.slice A9 hT.length c9) (.slice B9 hQ.length d9) (.slice C9 hU.length e9)):=Fi (Ad.refl _ _) (.inl rfl);refine⟨?_,hp.up (by show ¬ g2=gp;omega) (hV.o.up hO.o hJ.o.o),.inr ⟨gp,rfl,h1.1,by rw[List.length_set];exact bH.o,hR⟩,?_,Fi (hJ.o.but.trans hV.o fun _ h=>.inl h) (.inr h1.2.2.1)⟩
     ·rw[kY.o,<-Nat.add_assoc];exact hp.up (by show ¬ wk=gp;omega) bQ.o
     ·exact bK.o.but hp (by show ¬ sb=gp;omega) (fun x h=>.inl (.inr (.inr (.inr (by rw[show x=gp from h]))))) fun x hx e=>by have h5:=(hL.o x hx).1;have h6:=HG.o;have e:x=gp:=e;omega)
    clear hC hR;go_wp2_with fail;refine hK.out _ _ (HC.o _ (hV.o.mono fun x h=>h.elim .inl fun h=>.inr (.inl h))) (fun hF=>?_);clear hK Kx;try simp only[Act.put,Bd,Be,Bf]
    refine Ab.s [13,14] ?_
    iterate 2 (refine Ab.k (so rfl) hF ?_;try simp only[Act.put,Bd,Be,Bf])
    refine Ab.d ?_;refine wpAnyH_ready (rs:=[15]) (by kernel_rfl) (by simp) ?_;refine AllReadyH.cons (sd none rfl) (fun Kx hK=>?_) AllReadyH.nil;go_simp;refine hK.out _ _ (HC.o _ (Fi (hV.o.mono fun x h=>h.elim .inl fun h=>.inr (.inl h)) (.inl (.inr (.inr rfl))))) (fun hF=>?_);clear hK Kx;try simp only[Act.put,Bd,Be,Bf]
    refine wpAnyH_done (by kernel_rfl) ?_ _;clear hF q0 q1 q2 q3 q4 q5 y0 y1 y2 y3 y4 y5;have aD:=Hd (aE.o (nm,fl,.mk k6 s6 n6 hT hQ hU));go_wp2_with fail
    go_roundw
    case rel=>
     refine⟨i+1,S.set i (nm,fl,.mk k6 s6 n6 hT hQ hU),aA.o,by first|rfl|rw[aZ],aB.o,aD.o.2.2.1,?_,aD.o.2.2.2.1,bR.o⟩;rw[aD.o.2.2.2.2,bM.o,aC.o,<-bO.o]
    case measure=>first|exact HM.o|(rw[aZ];exact HM.o)
   ·have t1:decide ((i:Int)<(fs.length:Int))=false:=(by simp;omega);obtain rfl:i=fs.length:=by omega
    have hS:S=fs.map (fun f:Z8×Int×Ty=>(f.1,f.2.1,Bh n0 u f.2.2)):=(by rw[<-hG,List.take_length]at kI;rw[kI,hG,List.take_length]);have kN:=hI.cnt;rw[List.take_length]at kN;have kX:=Hd kN;have bL:=Hd hS;clear hi hI hG kI kO hB hS kN kA;obtain⟨wl,cE⟩:∃x:World,x=wr:=⟨_,rfl⟩;subst cE;have rb:=HY.o _ hJ.o.but;obtain⟨x0,x1,x2,x3,x4,x5⟩:=D4 hJ.o.o;obtain⟨q0,q1,q2,q3,q4,q5,z0,z1,z2,z3,z4,z5⟩:=Je rb;have RBX:=Hd rb;clear rb;go_wp2_with fail;obtain⟨r0,r1,r2,r3,r4,r5⟩:=D4 (Cd RBX.o (.int .i64 14) (.string s) (.int .i64 n) (.slice A 0 c) (.slice A6 fs.length c6) (.slice C 0 e));clear q0 q1 q2 q3 q4 q5 z0 z1 z2 z3 z4 z5;refine bodyPost_ret (v:=.agg #[.int .i64 14,.string s,.int .i64 n,.slice A 0 c,.slice A6 fs.length c6,.slice C 0 e]) (by simp[results,Tryz.results43,go_sem,r0,r1,r2,r3,r4,r5]) rfl ?_;clear r0 r1 r2 r3 r4 r5;have kL:=Cr wl g (.int .i64 14) (.string s) (.int .i64 n) (.slice A 0 c) (.slice A6 fs.length c6) (.slice C 0 e);have h1:=HCN.o;have h2:=kK.o;have h3:=HG.o;have h4:=hD.o;have h5:=hY.o;refine aL.o _ _ ⟨[.int .i64 14,.string s,.int .i64 n,.slice A 0 c,.slice A6 fs.length c6,.slice C 0 e],rfl,?_,by rw[<-h1];exact kL.up (by show ¬ wk=g;omega) kX.o,?_,Dx kV.o hJ.o.but HG.o kL⟩
    ·rw[cN.o,<-bL.o];obtain⟨b1,o1,r1,-⟩:=HP.o _ hJ.o.but;obtain⟨b2,o2,r2,-⟩:=cO.o _ hJ.o.but;have cB:=(hJ.o.row.list (by have h1:=hM.o;have h2:=bB.o;omega)).but kL (K':=fun x=>K x\/w.heap.size<=x) fun x hx=>by
      rcases hx with hx|⟨hx,-⟩
      ·have h6:=((hX.o x).1 hx).1;rcases h6 with h6|h6
       ·have h7:=(hL.o x h6).1;exact⟨fun e=>by have e:x=g:=e;omega,.inl h6⟩
       ·exact⟨fun e=>by have e:x=g:=e;omega,.inr (by omega)⟩
      ·exact⟨fun e=>by have e:x=g:=e;omega,.inr (by omega)⟩
     have hr:=Aw.of (k:=14) (n:=n) (ps:=[]) (vs:=[]) (A:=A) (c:=c) (A'':=C) (c'':=e) bN.o ⟨b1,o1,⟨r1.le,r1.big,r1.none,fun h=>absurd h (by simp)⟩,fun i h=>absurd h (by simp)⟩ cB ⟨b2,o2,⟨r2.le,r2.big,r2.none,fun h=>absurd h (by simp)⟩,fun i h=>absurd h (by simp)⟩;rw[hM.o]at hr;exact hr
    ·exact (hJ.o.sta.but kL (fun e=>by have e:sb=g:=e;omega) (fun x h=>.inl (.inr (.inl h))) fun x hx e=>by have h6:=(hL.o x hx).1;have e:x=g:=e;omega).more fun x h=>.inl (.inl h)
 ·rw[show (true && decide (n0=s))=false by simp[hq],if_neg (by decide)]at lk;go_upto_region 11 with fail
  clear c0 c1 lk hz x0 x1 x2 x3 x4 x5;rw[<-cP.o];obtain⟨x0,x1,x2,x3,x4,x5⟩:=HX.o w2 cG.o;go_upto_region 12 with fail
  clear x0 x1 x2 x3 x4 x5;rw[<-cQ.o,<-cK.o];obtain⟨x0,x1,x2,x3,x4,x5⟩:=HX.o w3 kJ.o;go_upto_region 17 with fail
  go_wp2_with fail;refine bD.o.mono ?_;rintro e w5 ⟨A6,c6,rfl,hZ,aH⟩;obtain⟨P,hP⟩:∃P:Nat->Prop,P=fun x=>(K x\/w3.heap.size<=x)/\x≠sb/\x≠wk/\A6≠some ⟨x,0,none⟩:=⟨_,rfl⟩;have hX:Z9 (∀x,P x↔(K x\/w3.heap.size<=x)/\x≠sb/\x≠wk/\A6≠some ⟨x,0,none⟩):=Hd fun x=>by rw[hP]
  have kG:Nn P w5 g2 A6 c6 fs:=aH.imp id fun ⟨gp,e1,e2,e3,e4⟩=>⟨gp,e1,by have:=hY.o;omega,e3,e4.weak fun x hx=>by
   have h1:=hL.o x hx;have h2:=aN.o.1;refine (hX.o x).2 ⟨.inl hx,h1.2.1,h1.2.2,fun e=>?_⟩;rw[e1]at e;injection e with e
   injection e with e
   omega⟩
  have aY:Ce K (fun x=>Z x\/x=g\/x=g2\/A6=some ⟨x,0,none⟩) w3 sb u nd:=cM.o.more fun x h=>by
   rcases h with h|h|h|h
   ·exact .inl (.inl h)
   ·exact .inl (.inr (.inl h))
   ·exact .inl (.inr (.inr h))
   ·rcases aH with ⟨-,e1,-⟩|⟨gp,e1,e2,-⟩
    ·rw[e1]at h;cases h
    ·rw[e1]at h;injection h with h;injection h with h;exact .inr (by omega)
  have kB:=Bj hZ (Array.getElem?_eq_some_iff.1 bC.o).1 bC.o;have aQ:=Bj hZ (Array.getElem?_eq_some_iff.1 bA.o).1 bA.o;obtain⟨w6,kU⟩:∃x,x=w5.setCell ⟨g2,4,none⟩ (.slice A6 fs.length c6):=⟨_,rfl⟩;have hH:Ad (fun x=>x=g2) w5 w6:=by rw[kU];exact (Ad.refl (fun x=>x=g2) w5).put1 4 _
  have kH:LoO P (fun x=>Z x\/x=g\/x=g2\/A6=some ⟨x,0,none⟩) K u wk sb nd g2 #[.int .i64 14,.string s,.int .i64 n,.slice A 0 c,.slice A6 fs.length c6,.slice C 0 e] A6 c6 w1 w6 (n1) fs:=by
   refine⟨hH.up (fun e=>hO.o (.inr e.symm)) aQ,by rw[kU];exact Cw kB 4 _,kG.but hH (fun gp h _ e=>by have e:gp=g2:=e;omega) (fun x hx e=>?_),?_,(kJ.o.then hZ).trans hH fun x h=>.inr (by have h1:=hD.o;have e:x=g2:=h;omega)⟩
   ·have e:x=g2:=e;have h1:=((hX.o x).1 hx).1;have h2:=hY.o;have h3:=hD.o;have h4:=HG.o;rcases h1 with h1|h1
    ·have h5:=(hL.o x h1).1;omega
    ·omega
   ·exact (aY.but (Ad.of_below (O:=fun _=>False) hZ) (fun h=>h) (fun x h=>h.elim) fun _ _ h=>h).but hH (fun e=>hO.o (.inl e.symm)) (fun x h=>.inl (.inr (.inr (.inl h)))) fun x hx e=>by have h5:=(hL.o x hx).1;have h6:=hD.o;have h7:=HG.o;have e:x=g2:=e;omega
  have kC:=Hd kH;have bP:=Hd kU;have aF:Z9 (w3.heap.size<=w6.heap.size):=Hd (by have h1:=hZ.size;have h2:=hH.size;omega);obtain⟨q0,q1,q2,q3,q4,q5,z0,z1,z2,z3,z4,z5⟩:=Je kB;clear aH kG kB aQ hZ hH kU kH aY hP bD x0 x1 x2 x3 x4 x5;go_upto_region 18 with fail
  rw[<-bP.o];clear q0 q1 q2 q3 q4 q5 z0 z1 z2 z3 z4 z5;obtain⟨-,-,-,-,b4,-⟩:=D4 kC.o.o;go_wp2_with fail;clear b4
  go_loopw [113] (fun v wr=>∃(i:Nat) (S:Bx),i<=fs.length/\v=.int .i64 i/\LoO P (fun x=>Z x\/x=g\/x=g2\/A6=some ⟨x,0,none⟩) K u wk sb nd g2 #[.int .i64 14,.string s,.int .i64 n,.slice A 0 c,.slice A6 fs.length c6,.slice C 0 e] A6 c6 w1 wr (n1+Bm (fs.take i)) S/\S.length=fs.length/\S.take i=(fs.take i).map (fun f:Z8×Int×Ty=>(f.1,f.2.1,Bh n0 u f.2.2))/\S.drop i=fs.drop i/\w3.heap.size<=wr.heap.size) (fun v _=>fs.length - (intOf v).toNat)
  case atStart=>exact⟨0,fs,Nat.zero_le _,rfl,by simpa [Bm] using kC.o,rfl,rfl,rfl,aF.o⟩
  case round=>
   obtain⟨i,S,hi,rfl,hI,hG,kI,kO,kA⟩:=hrel;have hJ:=Hd hI;have hM:=Hd hG;have bM:=Hd kI;by_cases hB:i<fs.length
   ·have hlp:=bB.o;have t1:decide ((i:Int)<(fs.length:Int))=true:=(by simp;omega);have aZ:wrap64 ((i:Int)+1)=((i+1:Nat):Int):=Ba (by omega);have HM:=Hd (Bg hB);obtain⟨x0,x1,x2,x3,x4,x5⟩:=HX.o _ hI.but;obtain⟨tb,tq,hA,aO,aP⟩:=(bI.o wr hI.but).at (Nat.lt_of_le_of_lt (Nat.zero_le i) hB);subst hA;obtain⟨gp,bS,aU,aR,kS⟩:=hI.row.get (by omega);subst bS;obtain⟨-,-,-,es,aT,kT⟩:=aP i hB;have kR:=cL.o (fs[i]'hB) (List.getElem_mem hB);have kQ:=cJ.o (fs[i]'hB) (List.getElem_mem hB);have hN:=aM.o (fs[i]'hB) (List.getElem_mem hB);have aE:=Hd fun u=>Kr hB hG kO u;have kZ:Z9 (∀h:i<S.length,S[i]'h=fs[i]'hB):=Hd fun _=>Sh hB hG kO;have aA:Z9 (i+1<=fs.length):=Hd hB;have aS:=N1 hB;have kW:Z9 (n1+Bm (fs.take i)+Am (fs[i]'hB).2.2<=4096):=Hd (by have h1:=Mf fs (i+1);have h2:=HCN.o;have h3:=cH.o;omega);have aC:Z9 ((fs.take (i+1)).map (fun f:Z8×Int×Ty=>(f.1,f.2.1,Bh n0 u f.2.2))=(fs.take i).map (fun f:Z8×Int×Ty=>(f.1,f.2.1,Bh n0 u f.2.2))++[(fun f:Z8×Int×Ty=>(f.1,f.2.1,Bh n0 u f.2.2)) (fs[i]'hB)]):=Hd (by rw[List.take_succ_eq_append_getElem hB,List.map_append];rfl);have kY:=Hd aS;have i1:(0:Int)<=(i:Int):=(by omega);have i2:(i:Int)<(fs.length:Int):=(by omega);generalize fs[i]'hB=ff at kT kR kQ hN aE kY kZ kW aC;obtain⟨nm,fl,u0⟩:=ff;dsimp only at kT kR kQ hN aE kY kZ kW aC;clear hlp aS;have kP:Ad (fun x=>x=sb\/x=wk) w wr.drew:=((Ad.of_below (O:=(fun x=>x=sb\/x=wk)) kV.o).trans hI.but fun x h=>.inl h).then (Below.refl _ _).drew;have ko:=kR K (fun x=>Z x\/x=g\/x=g2\/(some (⟨gp,0,none⟩:Addr))=some ⟨x,0,none⟩) wk sb nd wr.drew tb (tq+i*8+2) m true (n1+Bm (fs.take i)) ⟨es,fun j u hj=>Aa (Below.refl _ _).drew (aT j u hj),kT.later (Below.refl _ _).drew⟩ (hL.o tb aO).2 (fun x hx=>⟨Nat.lt_of_lt_of_le (hL.o x hx).1 kP.size,(hL.o x hx).2⟩) (cI.o _ kP) (hI.sta.but (Ad.of_below (O:=fun _=>False) (Below.refl _ _).drew) (fun h=>h) (fun x h=>h.elim) fun _ _ h=>h) (.inl HZ.o.1.1) (.inl HZ.o.1.2) (fun x h=>by
     show x<wr.heap.size;have h1:=kS.lt;have h2:=kP.size;have h3:wr.drew.heap.size=wr.heap.size:=rfl;have h4:=HG.o;have h5:=hI.but.size;have h6:=HS1.o;have h7:=(Array.getElem?_eq_some_iff.1 hI.o).1;rcases h with h|h|h|h
     ·have:=HZ.o.2 x h;omega
     ·omega
     ·omega
     ·injection h with h;injection h with h;omega) hI.cnt cR.o (by have:=kW.o;omega) kQ (fun _=>hN trivial)
    unfold Ci at ko;rw[if_pos rfl]at ko;have KQ:=Hd ko;have hW:Z9 (g2<gp/\gp<wr.heap.size/\w1.heap.size<=gp/\g2<wr.heap.size/\w3.heap.size<=wr.heap.size):=Hd ⟨aU,kS.lt,by have h2:=hD.o;omega,(Array.getElem?_eq_some_iff.1 hI.o).1,kA⟩;have HC:Z9 (∀wx,Ad (fun x=>x=sb\/x=wk\/x=gp) wr wx->wx.cell? ⟨g2,4,none⟩=some (.slice (some ⟨gp,0,none⟩) fs.length c6)/\wx.cell? ⟨bp,op+4,none⟩=some (.slice (some ⟨tb,tq,none⟩) fs.length d)):=Hd fun wx hx=>by
     have h1:=hx.up (by have h1:=hW.o;have h2:=hO.o;show ¬ (g2=sb\/g2=wk\/g2=gp);omega) hJ.o.o;have h2:=HX.o wx (hJ.o.but.trans hx fun x h=>by have:=hW.o;rcases h with h|h|h;exact .inl (.inl h);exact .inl (.inr h);exact .inr (by omega));exact⟨(D4 h1).2.2.2.2.1,h2.2.2.2.2.1⟩
    have bJ:=Hd kS;have bH:=Hd aR;clear kR aT kT kS aR aU hI hi hG kO kI aO aP ko kP kQ hN kA;go_upto_region 21 with fail
    clear x0 x1 x2 x3 x4 x5;refine wp_region_held_drew (S:=(fun w'=>w'.cell? ⟨g2,4,none⟩=some (.slice (some ⟨gp,0,none⟩) fs.length c6)/\w'.cell? ⟨bp,op+4,none⟩=some (.slice (some ⟨tb,tq,none⟩) fs.length d))) (by kernel_rfl) (HC.o _ (Ad.of_below (Below.refl _ _).drew)) (fun hF=>?_);refine Ab.s [0,1,2,3,4,5,6,7,8,9,10,11] ?_
    iterate 12 (refine Ab.k (so rfl) hF ?_;try simp only[Act.put,Bd,Be,Bf])
    refine Ab.d ?_;refine wpAnyH_ready (rs:=[12]) (by kernel_rfl) (by simp) ?_;refine AllReadyH.cons (sd (some 128) rfl) (fun Kx hK=>?_) AllReadyH.nil;go_simp;refine KQ.o.mono ?_;rintro e w6 ⟨rs,rfl,aI,kB,aV,kF⟩;have hV:Z9 (Ad (fun x=>x=sb\/x=wk) wr w6):=Hd (Ad.from (Below.refl wr.heap.size wr).drew kF);have hC:=bJ.o.but hV.o (by have h2:=hW.o;have h3:=kK.o;have h4:=hD.o;show ¬ (gp=sb\/gp=wk);omega) (fun x hx h=>by have h1:=(hX.o x).1 hx;exact h.elim h1.2.1 h1.2.2.1);obtain⟨u1,aK⟩:∃u1,u1=Bh n0 u u0:=⟨_,rfl⟩;rw[<-aK]at aI;have bO:=Hd aK;have aJ:Aw P w6 u1 rs:=aI.weak fun x hx=>by
     have h1:=hW.o;have h2:=HG.o;have h3:=hD.o;have h4:=kK.o;have h5:wr.drew.heap.size=wr.heap.size:=rfl;refine (hX.o x).2 ?_;rcases hx with hx|hx
     ·have h6:=hL.o x hx;exact⟨.inl hx,h6.2.1,h6.2.2,fun e=>by injection e with e;injection e with e;omega⟩
     ·exact⟨.inr (by omega),by omega,by omega,fun e=>by injection e with e;injection e with e;omega⟩
    have bQ:=Hd kB;have bK:=Hd aV;clear aI kB aV kF KQ aK;obtain⟨k6,s6,n6,hT,hQ,hU⟩:=u1;obtain⟨A9,c9,B9,d9,C9,e9,rfl,-⟩:=aJ.inv;simp only[Az]at aJ ⊢;obtain⟨⟨u0',q0⟩,⟨u1',q1⟩,⟨u2',q2⟩,⟨u3',q3⟩,⟨u4',q4⟩,⟨u5',q5⟩⟩:=hC.six (i:=i) (by have h1:=hM.o;have h2:=aA.o;omega);have y0:=hC.free (i*8+2);have y1:=hC.free (i*8+3);have y2:=hC.free (i*8+4);have y3:=hC.free (i*8+5);have y4:=hC.free (i*8+6);have y5:=hC.free (i*8+7);have hR:=hC.set (fun x hx e=>(((hX.o x).1 hx).2.2.2 (by rw[e]):False)) (by have h1:=hM.o;have h2:=aA.o;omega:i<S.length) aJ;rw[kZ.o]at hR;have bR:Z9 (w3.heap.size<=(Ey w6 gp (i*8+2) (.int .i64 k6) (.string s6) (.int .i64 n6) (.slice A9 hT.length c9) (.slice B9 hQ.length d9) (.slice C9 hU.length e9)).heap.size):=Hd (by have h1:=hW.o.2.2.2.2;have h2:=hV.o.size;have h3:Ad (fun x=>x=gp) w6 (Ey w6 gp (i*8+2) (.int .i64 k6) (.string s6) (.int .i64 n6) (.slice A9 hT.length c9) (.slice B9 hQ.length d9) (.slice C9 hU.length e9)):=Fi (Ad.refl _ _) (.inl rfl);have h4:=h3.size;omega);have aB:Z9 (LoO P (fun x=>Z x\/x=g\/x=g2\/(some (⟨gp,0,none⟩:Addr))=some ⟨x,0,none⟩) K u wk sb nd g2 #[.int .i64 14,.string s,.int .i64 n,.slice A 0 c,.slice (some ⟨gp,0,none⟩) fs.length c6,.slice C 0 e] (some (⟨gp,0,none⟩:Addr)) c6 w1 (Ey w6 gp (i*8+2) (.int .i64 k6) (.string s6) (.int .i64 n6) (.slice A9 hT.length c9) (.slice B9 hQ.length d9) (.slice C9 hU.length e9)) (n1+Bm (fs.take (i+1))) (S.set i (nm,fl,.mk k6 s6 n6 hT hQ hU))):=Hd (by
     have h1:=hW.o;have h3:=kK.o;have h4:=hD.o;have hp:Ad (fun x=>x=gp) w6 (Ey w6 gp (i*8+2) (.int .i64 k6) (.string s6) (.int .i64 n6) (.slice A9 hT.length c9) (.slice B9 hQ.length d9) (.slice C9 hU.length e9)):=Fi (Ad.refl _ _) (.inl rfl);refine⟨?_,hp.up (by show ¬ g2=gp;omega) (hV.o.up hO.o hJ.o.o),.inr ⟨gp,rfl,h1.1,by rw[List.length_set];exact bH.o,hR⟩,?_,Fi (hJ.o.but.trans hV.o fun _ h=>.inl h) (.inr h1.2.2.1)⟩
     ·rw[kY.o,<-Nat.add_assoc];exact hp.up (by show ¬ wk=gp;omega) bQ.o
     ·exact bK.o.but hp (by show ¬ sb=gp;omega) (fun x h=>.inl (.inr (.inr (.inr (by rw[show x=gp from h]))))) fun x hx e=>by have h5:=(hL.o x hx).1;have h6:=HG.o;have e:x=gp:=e;omega)
    clear hC hR;go_wp2_with fail;refine hK.out _ _ (HC.o _ (hV.o.mono fun x h=>h.elim .inl fun h=>.inr (.inl h))) (fun hF=>?_);clear hK Kx;try simp only[Act.put,Bd,Be,Bf]
    refine Ab.s [13,14] ?_
    iterate 2 (refine Ab.k (so rfl) hF ?_;try simp only[Act.put,Bd,Be,Bf])
    refine Ab.d ?_;refine wpAnyH_ready (rs:=[15]) (by kernel_rfl) (by simp) ?_;refine AllReadyH.cons (sd none rfl) (fun Kx hK=>?_) AllReadyH.nil;go_simp;refine hK.out _ _ (HC.o _ (Fi (hV.o.mono fun x h=>h.elim .inl fun h=>.inr (.inl h)) (.inl (.inr (.inr rfl))))) (fun hF=>?_);clear hK Kx;try simp only[Act.put,Bd,Be,Bf]
    refine wpAnyH_done (by kernel_rfl) ?_ _;clear hF q0 q1 q2 q3 q4 q5 y0 y1 y2 y3 y4 y5;have aD:=Hd (aE.o (nm,fl,.mk k6 s6 n6 hT hQ hU));go_wp2_with fail
    go_roundw
    case rel=>
     refine⟨i+1,S.set i (nm,fl,.mk k6 s6 n6 hT hQ hU),aA.o,by first|rfl|rw[aZ],aB.o,aD.o.2.2.1,?_,aD.o.2.2.2.1,bR.o⟩;rw[aD.o.2.2.2.2,bM.o,aC.o,<-bO.o]
    case measure=>first|exact HM.o|(rw[aZ];exact HM.o)
   ·have t1:decide ((i:Int)<(fs.length:Int))=false:=(by simp;omega);obtain rfl:i=fs.length:=by omega
    have hS:S=fs.map (fun f:Z8×Int×Ty=>(f.1,f.2.1,Bh n0 u f.2.2)):=(by rw[<-hG,List.take_length]at kI;rw[kI,hG,List.take_length]);have kN:=hI.cnt;rw[List.take_length]at kN;have kX:=Hd kN;have bL:=Hd hS;clear hi hI hG kI kO hB hS kN kA;obtain⟨wl,cE⟩:∃x:World,x=wr:=⟨_,rfl⟩;subst cE;have rb:=HY.o _ hJ.o.but;obtain⟨x0,x1,x2,x3,x4,x5⟩:=D4 hJ.o.o;obtain⟨q0,q1,q2,q3,q4,q5,z0,z1,z2,z3,z4,z5⟩:=Je rb;have RBX:=Hd rb;clear rb;go_wp2_with fail;obtain⟨r0,r1,r2,r3,r4,r5⟩:=D4 (Cd RBX.o (.int .i64 14) (.string s) (.int .i64 n) (.slice A 0 c) (.slice A6 fs.length c6) (.slice C 0 e));clear q0 q1 q2 q3 q4 q5 z0 z1 z2 z3 z4 z5;refine bodyPost_ret (v:=.agg #[.int .i64 14,.string s,.int .i64 n,.slice A 0 c,.slice A6 fs.length c6,.slice C 0 e]) (by simp[results,Tryz.results43,go_sem,r0,r1,r2,r3,r4,r5]) rfl ?_;clear r0 r1 r2 r3 r4 r5;have kL:=Cr wl g (.int .i64 14) (.string s) (.int .i64 n) (.slice A 0 c) (.slice A6 fs.length c6) (.slice C 0 e);have h1:=HCN.o;have h2:=kK.o;have h3:=HG.o;have h4:=hD.o;have h5:=hY.o;refine aL.o _ _ ⟨[.int .i64 14,.string s,.int .i64 n,.slice A 0 c,.slice A6 fs.length c6,.slice C 0 e],rfl,?_,by rw[<-h1];exact kL.up (by show ¬ wk=g;omega) kX.o,?_,Dx kV.o hJ.o.but HG.o kL⟩
    ·rw[cN.o,<-bL.o];obtain⟨b1,o1,r1,-⟩:=HP.o _ hJ.o.but;obtain⟨b2,o2,r2,-⟩:=cO.o _ hJ.o.but;have cB:=(hJ.o.row.list (by have h1:=hM.o;have h2:=bB.o;omega)).but kL (K':=fun x=>K x\/w.heap.size<=x) fun x hx=>by
      rcases hx with hx|⟨hx,-⟩
      ·have h6:=((hX.o x).1 hx).1;rcases h6 with h6|h6
       ·have h7:=(hL.o x h6).1;exact⟨fun e=>by have e:x=g:=e;omega,.inl h6⟩
       ·exact⟨fun e=>by have e:x=g:=e;omega,.inr (by omega)⟩
      ·exact⟨fun e=>by have e:x=g:=e;omega,.inr (by omega)⟩
     have hr:=Aw.of (k:=14) (n:=n) (ps:=[]) (vs:=[]) (A:=A) (c:=c) (A'':=C) (c'':=e) bN.o ⟨b1,o1,⟨r1.le,r1.big,r1.none,fun h=>absurd h (by simp)⟩,fun i h=>absurd h (by simp)⟩ cB ⟨b2,o2,⟨r2.le,r2.big,r2.none,fun h=>absurd h (by simp)⟩,fun i h=>absurd h (by simp)⟩;rw[hM.o]at hr;exact hr
    ·exact (hJ.o.sta.but kL (fun e=>by have e:sb=g:=e;omega) (fun x h=>.inl (.inr (.inl h))) fun x hx e=>by have h6:=(hL.o x hx).1;have e:x=g:=e;omega).more fun x h=>.inl (.inl h)
