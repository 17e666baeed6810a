import Derived.Test.YtlpfpehegddcfaaGreatDoorMw35
import Derived.Test.YtlpfpehegddcfaaGreatDoorMw37
namespace Go.Proofs.YtlpfpehegddcfaaGreatDoor
set_option maxRecDepth 100000
set_option maxHeartbeats 64000000
open Go.RowKit
theorem Jc3 {Cc:Prop}{K:Nat->Prop}{w:World}{t u:Ty}{cs us:List Value}{n0:Z8}{bb bo cb:Nat}(hr:An K w t cs) (hu:An K w u us) (hK:∀x,K x->x<w.heap.size) (aO:w.cell? ⟨bb,bo,none⟩=some (.string n0)) (hP:∀j v,us[j]?=some v->w.cell? ⟨bb,bo+1+j,none⟩=some v) (bQ:Ca n0=true/\n0.size<=1000000000000000) (kW:Ai t=true/\Dy t=true/\Am t<=4096) (kX:Ai u=true/\Dy u=true/\Am u<=4096) (bS:M1 Cc n0 u t) (bR:Cc\/Bx n0 t=false) (bL:Cc->Am u=1) :
  Calls Tryz.prog 19 #[.agg cs.toArray,.slice (some ⟨bb,bo,none⟩) 1 cb] w fun r w'=>∃rs,r=.returned (.tuple #[.agg rs.toArray,.int .i64 0])/\An (fun b=>(K b\/w.heap.size<=b)/\b<w'.heap.size) w' (Bg n0 u t) rs/\Below w.heap.size w w':=by
 obtain⟨g,hg⟩:∃g,g=w.heap.size:=⟨_,rfl⟩;obtain⟨w1,kD⟩:∃x,x=w.alloc (.cells cs.toArray 26):=⟨_,rfl⟩;have hV:Below w.heap.size w w1:=by rw[kD];exact (Below.refl _ _).alloc (Nat.le_refl _) _
 have aZ:w1.heap[g]?=some (.cells cs.toArray 26 (0,0)):=by rw[kD,hg];exact heap_alloc_new w _
 have aV:w1.heap.size=g+1:=by rw[kD,hg];simp
 obtain⟨w2,kO⟩:∃x,x=w1.alloc (.cells #[.int .i64 0,.string ⟨#[]⟩,.int .i64 0,.slice none 0 0,.slice none 0 0,.slice none 0 0] 26):=⟨_,rfl⟩;have aP:Below w1.heap.size w1 w2:=by rw[kO];exact (Below.refl _ _).alloc (Nat.le_refl _) _
 have bZ:w2.heap[g+1]?=some (.cells #[.int .i64 0,.string ⟨#[]⟩,.int .i64 0,.slice none 0 0,.slice none 0 0,.slice none 0 0] 26 (0,0)):=by rw[kO,<-aV];exact heap_alloc_new w1 _
 have bU:w2.heap.size=g+2:=by rw[kO];simp[aV]
 have hZ:Z9 (Below w.heap.size w w2):=Hd (hV.trans (aP.mono hV.size));have HT:Z9 (∀wx,Below w2.heap.size w2 wx->An K wx t cs):=Hd fun wx hx=>(hr.later hZ.o).later hx;have HU:Z9 (∀wx,Below w2.heap.size w2 wx->An K wx u us):=Hd fun wx hx=>(hu.later hZ.o).later hx;have HX1:=Hd (Ay aP (Array.getElem?_eq_some_iff.1 aZ).1 aZ);have cR:=Hd bZ;have bE:=Hd bU;have HG:=Hd hg;have kS:=Hd hK;have kT:=Hd bQ;have kR:=Hd kW;have cX:=Hd kX;have cJ:=Hd bS;have cH:=Hd bR;have bD:=Hd bL;have kU:=Fc (hr.later hZ.o);have bM:Co t=true:=by unfold Co;rw[kW.1,decide_eq_true kW.2.2];rfl
 rw[bM]at kU;have kM:Co u=true:=by unfold Co;rw[kX.1,decide_eq_true kX.2.2];rfl
 have cC:=Hd kM;obtain⟨T7,aN⟩:∃T,T=Bg n0 u t:=⟨_,rfl⟩;have cL:=Hd aN;rw[<-aN];obtain⟨k,s,n,ps,fs,vs⟩:=t;obtain⟨A,c,B,d,C,e,rfl,-⟩:=hr.inv;obtain⟨k1,s1,n1,hG,hF,hH⟩:=u;obtain⟨A1,c1,B1,d1,C1,e1,rfl,-⟩:=hu.inv;simp only[Ao]at HX1 kU HT HU hP kD ⊢;have KF:=Hd kU;have cU:bb<w.heap.size:=World.block_lt_of_cell? _ _ aO;have cA:Z9 (∀wx,Below w.heap.size w wx->wx.cell? ⟨bb,bo,none⟩=some (.string n0)/\wx.cell? ⟨bb,bo+1,none⟩=some (.int .i64 k1)/\wx.cell? ⟨bb,bo+2,none⟩=some (.string s1)/\wx.cell? ⟨bb,bo+3,none⟩=some (.int .i64 n1)/\wx.cell? ⟨bb,bo+4,none⟩=some (.slice A1 hG.length c1)/\wx.cell? ⟨bb,bo+5,none⟩=some (.slice B1 hF.length d1)/\wx.cell? ⟨bb,bo+6,none⟩=some (.slice C1 hH.length e1)):=Hd fun wx hx=>⟨Aa hx aO,Aa hx (hP 0 _ rfl),Aa hx (hP 1 _ rfl),Aa hx (hP 2 _ rfl),Aa hx (hP 3 _ rfl),Aa hx (hP 4 _ rfl),Aa hx (hP 5 _ rfl)⟩;have HW1:=Hd kD;have cN:=Hd kO;have cV:=@run_makeMap Tryz.prog;clear hr hu hK aO hP bQ kW kX bS bR bL hg kD hV aZ aV kO aP bZ bU kU bM kM aN cU;go_enter Tryz.func19,Tryz.ntmps19;go_upto_region 1 with fail
 rw[<-HW1.o,<-cN.o,<-HG.o];obtain⟨z0,z1,z2,z3,z4,z5⟩:=Dw HX1.o;go_wp2_with fail;refine KF.o.mono ?_;rintro r w3 ⟨rfl,kV⟩;obtain⟨M,hM⟩:∃x,x=w3.heap.size:=⟨_,rfl⟩;obtain⟨w4,kP⟩:∃x,x=w3.alloc (.map #[] 0):=⟨_,rfl⟩;have bJ:Below w3.heap.size w3 w4:=by rw[kP];exact (Below.refl _ _).alloc (Nat.le_refl _) _
 have bO:Da Mu w4 M 0 (fun _=>none):=by rw[kP,hM];exact Da.new Mu w3
 have bV:w4.heap.size=M+1:=by rw[kP,hM];simp
 have hD:Z9 (Below w2.heap.size w2 w4):=Hd (kV.trans (bJ.mono kV.size));have cE:=Hd bO;have kA:Z9 (w4.heap.size=M+1/\g+2<=M):=Hd ⟨bV,by have h1:=bE.o;have h2:=kV.size;omega⟩;have cG:=Hd hM;have cO:=Hd kP;clear kV hM kP bJ bO bV KF z0 z1 z2 z3 z4 z5;go_upto_region 4 with fail
 clear cV;rw[<-cG.o,<-cO.o];go_wp2_with fail
 go_loopw [20] (fun v wr=>(v=.int .i64 0/\wr=w4)\/(v=.int .i64 1/\∃sb,w4.heap.size<=sb/\sb<wr.heap.size/\Da Mu wr M 1 (J2 true n0 sb)/\(∀Z,Cg K Z wr sb (.mk k1 s1 n1 hG hF hH) (Cs (Am (.mk k1 s1 n1 hG hF hH))))/\Ad (fun x=>x=M) w4 wr)) (fun v _=>1 - (intOf v).toNat)
 case atStart=>exact .inl ⟨rfl,rfl⟩
 case round=>
  rcases hrel with ⟨rfl,bW⟩|⟨rfl,sb,aX,kZ,hm,kC,aR⟩
  ·obtain rfl:w4=wr:=bW.symm;clear bW;obtain⟨b0,b1,b2,b3,b4,b5,b6⟩:=cA.o w4 (hZ.o.trans (hD.o.mono hZ.o.size));obtain⟨w5,aB⟩:∃x,x=w4.alloc (.cells #[.string n0,.int .i64 k1,.string s1,.int .i64 n1,.slice A1 hG.length c1,.slice B1 hF.length d1,.slice C1 hH.length e1] 41):=⟨_,rfl⟩;have kK:Below w4.heap.size w4 w5:=by rw[aB];exact (Below.refl _ _).alloc (Nat.le_refl _) _
   have bA:w5.heap[w4.heap.size]?=some (.cells #[.string n0,.int .i64 k1,.string s1,.int .i64 n1,.slice A1 hG.length c1,.slice B1 hF.length d1,.slice C1 hH.length e1] 41 (0,0)):=by rw[aB];exact heap_alloc_new w4 _
   have aL:=Ex n0 w5 kT.o.2;rw[kT.o.1]at aL;have KN:=Hd aL;have kG:=Hd kK;have bF:=Hd bA;have cP:=Hd aB;have y0:=Ch bA 0;simp only[List.getElem?_toArray,List.getElem?_cons_zero]at y0;clear aB kK bA aL;go_upto_region 7 with fail
   rw[<-cP.o];clear b0 b1 b2 b3 b4 b5 b6;go_wp2_with fail;refine KN.o.mono ?_;rintro r w6 ⟨rfl,aQ⟩;have hT:Z9 (Below w4.heap.size w4 w6):=Hd (kG.o.trans (aQ.mono kG.o.size));have hR:=Ay aQ (Array.getElem?_eq_some_iff.1 bF.o).1 bF.o;have aM:=Fc (HU.o w6 (hD.o.trans (hT.o.mono hD.o.size)));rw[cC.o]at aM;have KU:=Hd aM;have bG:=Hd hR;have y1:=Ch hR 1;have y2:=Ch hR 2;have y3:=Ch hR 3;have y4:=Ch hR 4;have y5:=Ch hR 5;have y6:=Ch hR 6;simp only[List.getElem?_toArray,List.getElem?_cons_zero,List.getElem?_cons_succ]at y1 y2 y3 y4 y5 y6;clear aQ hR KN y0 aM;go_wp2_with fail;refine KU.o.mono ?_;rintro r w7 ⟨rfl,hW⟩;have hA:Z9 (Below w4.heap.size w4 w7):=Hd (hT.o.trans (hW.mono hT.o.size));have bB:=Ay hW (Array.getElem?_eq_some_iff.1 bG.o).1 bG.o;have aT:=cE.o.keep (hA.o.block M (by have:=kA.o;omega));have lk:=aT.look2 n0 (Nat.le_trans kT.o.2 (by decide));have cF:=Hd aT;have bH:=Hd bB;have y0:=Ch bB 0;simp only[List.getElem?_toArray,List.getElem?_cons_zero]at y0;clear hW bB aT y1 y2 y3 y4 y5 y6 KU;have lk2:(Instr.lookup 79 (.map (some M)) (.string n0) true).run Tryz.prog w7=.ok (.tuple #[.pointer none,.bool false]) w7:=lk;clear lk;go_upto_region 11 with fail
   clear lk2 y0;have HC:Z9 (∀wx,Below w7.heap.size w7 wx->(wx.cell? ⟨w4.heap.size,0,none⟩=some (.string n0))/\wx.cell? ⟨w4.heap.size,1,none⟩=some (.int .i64 k1)/\wx.cell? ⟨w4.heap.size,2,none⟩=some (.string s1)/\wx.cell? ⟨w4.heap.size,3,none⟩=some (.int .i64 n1)/\wx.cell? ⟨w4.heap.size,4,none⟩=some (.slice A1 hG.length c1)/\wx.cell? ⟨w4.heap.size,5,none⟩=some (.slice B1 hF.length d1)/\wx.cell? ⟨w4.heap.size,6,none⟩=some (.slice C1 hH.length e1)):=Hd fun wx hx=>by
    have h:=Ay hx (Array.getElem?_eq_some_iff.1 bH.o).1 bH.o;exact⟨Ch h 0,Ch h 1,Ch h 2,Ch h 3,Ch h 4,Ch h 5,Ch h 6⟩
   have KS:=Hd (Y5 (HU.o w7.drew (hD.o.trans ((hA.o.trans ((Below.refl _ _).drew.mono hA.o.size)).mono hD.o.size))));refine wp_region_held_drew (S:=(fun w'=>(w'.cell? ⟨w4.heap.size,0,none⟩=some (.string n0))/\w'.cell? ⟨w4.heap.size,1,none⟩=some (.int .i64 k1)/\w'.cell? ⟨w4.heap.size,2,none⟩=some (.string s1)/\w'.cell? ⟨w4.heap.size,3,none⟩=some (.int .i64 n1)/\w'.cell? ⟨w4.heap.size,4,none⟩=some (.slice A1 hG.length c1)/\w'.cell? ⟨w4.heap.size,5,none⟩=some (.slice B1 hF.length d1)/\w'.cell? ⟨w4.heap.size,6,none⟩=some (.slice C1 hH.length e1))) (by kernel_rfl) (HC.o _ (Below.refl _ _).drew) (fun hC=>?_);refine Ab.s [0,1,2,3,4] ?_
   iterate 5 (refine Ab.k (so rfl) hC ?_;try simp only[Act.put,Az,Ba,Bb])
   refine Ab.d ?_;refine wpAnyH_ready (rs:=[5]) (by kernel_rfl) (by simp) ?_;refine AllReadyH.cons (sd (some 49) rfl) (fun Kx hK=>?_) AllReadyH.nil;go_simp;refine KS.o.mono ?_;rintro r w8 ⟨sb,rfl,aX,kC,bK⟩;have hU:Z9 (Below w7.heap.size w7 w8):=Hd ((Below.refl _ _).drew.trans bK);have bP:=cF.o.keep (hU.o.block M (by have h1:=kA.o;have h2:=hA.o.size;omega));obtain⟨w9,aA,aU,bN⟩:=bP.put (by decide) n0 (Nat.le_trans kT.o.2 (by decide)) (some sb);have hI:Ad (fun x=>x=M) w8 w9:=Jh bN;have cM:Z9 ((Instr.mapUpdate 79 (.map (some M)) (.string n0) (.pointer (some ⟨sb,0,none⟩))).run Tryz.prog w8=.ok () w9):=Hd aA;have e9:Ip (fun _=>none) n0 (some sb)=J2 true n0 sb:=by
    funext x;unfold Ip J2;by_cases e:n0=x <;> simp[e]
   rw[e9]at aU;have kZ:sb<w8.heap.size:=by
    obtain⟨es,fv,kn,h,-⟩:=(kC fun _=>True).ex;exact (Array.getElem?_eq_some_iff.1 h).1
   have cD:Z9 (∃sb,w4.heap.size<=sb/\sb<w9.heap.size/\Da Mu w9 M 1 (J2 true n0 sb)/\(∀Z,Cg K Z w9 sb (.mk k1 s1 n1 hG hF hH) (Cs (Am (.mk k1 s1 n1 hG hF hH))))/\Ad (fun x=>x=M) w4 w9):=Hd ⟨sb,by have h1:=hA.o.size;have h2:w7.drew.heap.size=w7.heap.size:=rfl;omega,Nat.lt_of_lt_of_le kZ hI.size,aU,fun Z=>((kC fun x=>Z x\/x=M).but hI (fun e=>by have e:sb=M:=e;have h1:=hA.o.size;have h2:w7.drew.heap.size=w7.heap.size:=rfl;have h3:=kA.o;omega) (fun x h=>.inl (.inr h)) fun x hx e=>by have e:x=M:=e;have h1:=kS.o x hx;have h2:=HG.o;have h3:=kA.o;omega).more fun x h=>.inl (.inl h),((Ad.of_below (O:=fun x=>x=M) hA.o).then hU.o).trans hI fun x h=>.inl h⟩;have bC:=Hd (HC.o w8 hU.o);have aD:Z9 ((w9.cell? ⟨w4.heap.size,0,none⟩=some (.string n0))/\w9.cell? ⟨w4.heap.size,1,none⟩=some (.int .i64 k1)/\w9.cell? ⟨w4.heap.size,2,none⟩=some (.string s1)/\w9.cell? ⟨w4.heap.size,3,none⟩=some (.int .i64 n1)/\w9.cell? ⟨w4.heap.size,4,none⟩=some (.slice A1 hG.length c1)/\w9.cell? ⟨w4.heap.size,5,none⟩=some (.slice B1 hF.length d1)/\w9.cell? ⟨w4.heap.size,6,none⟩=some (.slice C1 hH.length e1)):=Hd (by
    have hX:¬ w4.heap.size=M:=(by have:=kA.o;omega);obtain⟨a0,a1,a2,a3,a4,a5,a6⟩:=bC.o;exact⟨hI.cell hX a0,hI.cell hX a1,hI.cell hX a2,hI.cell hX a3,hI.cell hX a4,hI.cell hX a5,hI.cell hX a6⟩)
   clear aX kC bK bP aA aU bN hI e9 kZ KS;go_wp2_with fail;refine hK.out _ _ (bC.o) (fun hC=>?_);clear hK Kx;try simp only[Act.put,Az,Ba,Bb]
   have aA:=cM.o;refine wpAnyH_ready (rs:=[6]) (by kernel_rfl) (by simp) ?_;refine AllReadyH.cons (sd none rfl) (fun Kx hK=>?_) AllReadyH.nil;go_simp;refine hK.out _ _ (aD.o) (fun hC=>?_);clear hK Kx;try simp only[Act.put,Az,Ba,Bb]
   refine wpAnyH_done (by kernel_rfl) ?_ _;clear hC aA;go_wp2_with fail;exact⟨.inr ⟨rfl,cD.o⟩,by decide⟩
  ·obtain⟨w10,aY⟩:∃x:World,x=wr:=⟨_,rfl⟩;subst aY;obtain⟨wk,aC⟩:∃x,x=w10.heap.size:=⟨_,rfl⟩;obtain⟨w11,hJ⟩:∃x,x=w10.alloc (.cells #[.int .i64 0] 85):=⟨_,rfl⟩;have hN:Below w10.heap.size w10 w11:=by rw[hJ];exact (Below.refl _ _).alloc (Nat.le_refl _) _
   have bY:w11.heap[wk]?=some (.cells #[.int .i64 ((0:Nat):Int)] 85 (0,0)):=by rw[hJ,aC];exact heap_alloc_new w10 _
   have aW:w11.heap.size=wk+1:=by rw[hJ,aC];simp
   have h4:=kA.o;have h2:=bE.o;have hg:=HG.o;have cS:=aR.size;have hb2_11:Ad (fun x=>x=M) w2 w11:=((Ad.of_below (O:=fun x=>x=M) hD.o).trans aR fun x h=>.inl h).then hN;have hQ:Ad (fun _=>False) w w11:=(Ad.of_below (O:=fun _=>False) hZ.o).trans hb2_11 fun x h=>.inr (by have h:x=M:=h;omega);have bX:=hb2_11.up (by show ¬ g=M;omega) HX1.o;have bT:=(HT.o w2 (Below.refl _ _)).but hb2_11 (K':=K) fun x hx=>⟨fun e=>by have h1:=kS.o x hx;have e:x=M:=e;omega,hx⟩;have bI:Dm K w11 (.mk k s n ps fs vs) g 0:=⟨_,fun j u hj=>by rw[Nat.zero_add,Ch bX];simpa using hj,bT⟩;have hE:Ct wk sb n0 w11 (some M) true:=⟨by omega,by omega,by omega,1,Nat.le_refl _,hm.keep (hN.block M (by omega))⟩;have hS:Cg K (fun x=>x=sb\/x=wk) w11 sb (.mk k1 s1 n1 hG hF hH) (Cs (Am (.mk k1 s1 n1 hG hF hH))):=(kC _).but (Ad.of_below (O:=fun _=>False) hN) (fun h=>h) (fun x h=>h.elim) fun _ _ h=>h;have kJ:=cJ.o K (fun x=>x=sb\/x=wk) wk sb (Cs (Am (.mk k1 s1 n1 hG hF hH))) w11 g 0 (some M) true 0 bI ⟨by omega,by omega⟩ (fun x hx=>by have h1:=kS.o x hx;omega) hE hS (.inl rfl) (.inr rfl) (fun x h=>by rcases h with h|h <;> omega) bY (by omega) (by have:=kR.o.2.2;omega) ⟨kR.o.1,kR.o.2.1⟩ (fun _=>cH.o.imp (fun h=>⟨by have h1:=bD.o h;unfold Cs;omega,bD.o h,h⟩) id);unfold Ck at kJ;rw[if_pos rfl,<-cL.o,Nat.zero_add]at kJ;obtain⟨Y,hY⟩:∃Y,Y=Am (.mk k s n ps fs vs):=⟨_,rfl⟩;rw[<-hY]at kJ;have aJ:Z9 (Y<=4096):=Hd (by rw[hY];exact kR.o.2.2);have KO:=Hd kJ;have kH:=Hd hQ;have aE:Z9 (w.heap.size<=sb/\w.heap.size<=wk/\g+1≠sb/\g+1≠wk/\wk<w11.heap.size/\w.heap.size<=w11.heap.size/\g+1<w11.heap.size):=Hd (by omega);have aK:=Hd (hb2_11.up (by show ¬ g+1=M;omega) cR.o);have cQ:=Hd aC;have kI:=Hd hJ;clear aX kZ hm kC aR aC hJ hN bY aW h4 h2 hg cS hb2_11 hQ bX bT bI hE hS kJ hY;go_upto_region 14 with fail
   rw[<-cQ.o];first|rw[<-kI.o]|rw[show World.alloc w10 (.cells #[.int .i64 0] 85)=w11 from kI.o.symm]
   go_wp2_with fail;refine KO.o.mono ?_;rintro r w12 ⟨rs,rfl,kY,aS,cW,hW⟩;obtain⟨k7,s7,n7,kE,kB,kF⟩:=T7;obtain⟨A7,c7,B7,d7,C7,e7,rfl,-⟩:=kY.inv;simp only[Ao]at kY ⊢;obtain⟨ob,kN⟩:∃x,x=w12.heap.size:=⟨_,rfl⟩;obtain⟨w13,hL⟩:∃x,x=w12.alloc (.cells #[.int .i64 k7,.string s7,.int .i64 n7,.slice A7 kE.length c7,.slice B7 kB.length d7,.slice C7 kF.length e7] 26):=⟨_,rfl⟩;have hO:Below w12.heap.size w12 w13:=by rw[hL];exact (Below.refl _ _).alloc (Nat.le_refl _) _
   have kQ:w13.heap[ob]?=some (.cells #[.int .i64 k7,.string s7,.int .i64 n7,.slice A7 kE.length c7,.slice B7 kB.length d7,.slice C7 kF.length e7] 26 (0,0)):=by rw[hL,kN];exact heap_alloc_new w12 _
   have kL:=Ay hO (Array.getElem?_eq_some_iff.1 aS).1 aS;have hB:Ad (fun x=>x=sb\/x=wk) w11 w13:=hW.then hO;have rb:=hB.up (by have:=aE.o;show ¬ (g+1=sb\/g+1=wk);omega) aK.o;have cB:Z9 (Ad (fun _=>False) w w13):=Hd (kH.o.trans hB fun x h=>.inr (by have h1:=aE.o;rcases h with h|h <;> omega));have cK:=Hd (kY.later hO).both;have aI:=Hd kQ;have cI:Z9 (w11.heap.size<=ob/\w13.heap.size=ob+1):=Hd ⟨by rw[kN];exact hW.size,by rw[hL,kN];simp⟩;have y0:=Ch kL 0;simp only[List.getElem?_toArray,List.getElem?_cons_zero]at y0;have t2:decide ((4096:Int)<(Y:Int))=false:=decide_eq_false (by have:=aJ.o;omega);have t2':¬ (4096:Int)<(Y:Int):=by have:=aJ.o;omega
   have t2'':¬ 4096<Y:=by have:=aJ.o;omega
   have aF:=Hd kN;have aH:=Hd hL;clear kY aS cW hW kN hL hO kQ kL hB KO;go_upto_region 15 with fail
   rw[<-aF.o,<-aH.o];obtain⟨x0,x1,x2,x3,x4,x5⟩:=Dw aI.o;go_upto_region 17 with fail
   clear y0 t2 t2' t2'';obtain⟨q0,q1,q2,q3,q4,q5,z0,z1,z2,z3,z4,z5⟩:=Hr rb;have RBX:=Hd rb;clear rb;go_wp2_with fail;obtain⟨r0,r1,r2,r3,r4,r5⟩:=Dw (Bt RBX.o (.int .i64 k7) (.string s7) (.int .i64 n7) (.slice A7 kE.length c7) (.slice B7 kB.length d7) (.slice C7 kF.length e7));clear q0 q1 q2 q3 q4 q5 z0 z1 z2 z3 z4 z5;refine bodyPost_ret (v:=.tuple #[.agg #[.int .i64 k7,.string s7,.int .i64 n7,.slice A7 kE.length c7,.slice B7 kB.length d7,.slice C7 kF.length e7],.int .i64 0]) (by simp[results,Tryz.results19,go_sem,r0,r1,r2,r3,r4,r5]) rfl ?_;clear r0 r1 r2 r3 r4 r5;have aG:=Di w13 (g+1) (.int .i64 k7) (.string s7) (.int .i64 n7) (.slice A7 kE.length c7) (.slice B7 kB.length d7) (.slice C7 kF.length e7);have h1:=aE.o;have h2:=cI.o;have h3:=HG.o;have cT:=cB.o.trans aG fun x h=>.inr (by have h:x=g+1:=h;omega);refine⟨[.int .i64 k7,.string s7,.int .i64 n7,.slice A7 kE.length c7,.slice B7 kB.length d7,.slice C7 kF.length e7],rfl,?_,cT.below (Nat.le_refl _) fun x h=>h.elim⟩;have cZ:=aG.size;refine cK.o.but aG fun x hx=>?_;obtain⟨hx,cY⟩:=hx;refine⟨fun e=>?_,hx.imp id fun h=>by omega,by omega⟩;have e:x=g+1:=e;rcases hx with hx|hx
   ·have h4:=kS.o x hx;omega
   ·omega
theorem Jd7:(Tryz.prog.info? 59).map (fun i=>(i.zero,i.size,i.bytes))=some (some (.agg #[.string ⟨#[]⟩,.int .i64 0,.int .i64 0,.string ⟨#[]⟩,.int .i64 0,.slice none 0 0,.slice none 0 0,.slice none 0 0]),8,128):=by kernel_rfl
def Ka (O:Nat->Prop) (B:Nat) (w:World) (v:Value) (fs:Bv):Prop:=∃vs,w.ownsRow B 59 8 v fs.length vs/\∀i (h:i<fs.length),vs[i*8]?=some (.string fs[i].1)/\vs[i*8+1]?=some (.int .i64 fs[i].2.1)/\fs[i].1.size<=1000000000000000/\∃cs,An (fun b=>b<w.heap.size/\¬ O b/\v.ownBlock≠some b) w fs[i].2.2 cs/\∀j u,cs[j]?=some u->vs[i*8+2+j]?=some u
theorem Ka.nil (O:Nat->Prop) (B:Nat) (w:World):Ka O B w (.slice none 0 0) []:=⟨[],⟨rfl,.inl ⟨rfl,rfl⟩⟩,fun i h=>absurd h (by simp)⟩
theorem Jgc {w:World}{base:Nat}{e:TypeId}{size n:Nat}{v:Value}{xs:List Value}(h:w.ownsRow base e size v n xs) {b:Nat}(hb:v.ownBlock=some b):b<w.heap.size:=by
 obtain⟨c,hc⟩:=Jft h hb;exact (Array.getElem?_eq_some_iff.1 hc).1
theorem Ka.keep {O O':Nat->Prop}{B:Nat}{w w':World}{v:Value}{fs:Bv}(h:Ka O B w v fs) (hb:Ad O' w w') (ho:∀x,O' x->O x) (hg:∀b,v.ownBlock=some b->¬ O b):Ka O B w' v fs:=by
 obtain⟨vs,h1,h2⟩:=h;refine⟨vs,⟨h1.1,?_⟩,fun i hi=>?_⟩
 ·rcases h1.2 with h3|⟨b,cap,cur,hv,hB,hh,r⟩
  ·exact .inl h3
  ·refine .inr ⟨b,cap,cur,hv,hB,?_,r⟩;rw[hb.block b (Array.getElem?_eq_some_iff.1 hh).1 fun e=>hg b (by rw[hv];rfl) (ho b e)];exact hh
 ·obtain⟨a1,a2,a3,cs,a4,a5⟩:=h2 i hi;exact⟨a1,a2,a3,cs,a4.but hb fun x hx=>⟨fun e=>hx.2.1 (ho x e),Nat.lt_of_lt_of_le hx.1 hb.size,hx.2.1,hx.2.2⟩,a5⟩
theorem Ka.push {O:Nat->Prop}{B:Nat}{w w':World}{v v':Value}{fs:Bv}{nm:Z8}{fl:Int}{t:Ty}{vs cs:List Value}(hg:∀x,O x->x<w.heap.size) (hD:∀b,v.ownBlock=some b->¬ O b)
  (h2:∀i (h:i<fs.length),vs[i*8]?=some (.string fs[i].1)/\vs[i*8+1]?=some (.int .i64 fs[i].2.1)/\fs[i].1.size<=1000000000000000/\∃cs,An (fun b=>b<w.heap.size/\¬ O b/\v.ownBlock≠some b) w fs[i].2.2 cs/\∀j u,cs[j]?=some u->vs[i*8+2+j]?=some u)
  (hl:vs.length=fs.length*8) (hn:nm.size<=1000000000000000) (ht:An (fun b=>b<w.heap.size/\¬ O b/\v.ownBlock≠some b) w t cs)
  (ho:w'.ownsRow B 59 8 v' (fs.length+1) (vs++(.string nm :: .int .i64 fl :: cs))) (hC:w.grownBy w' v.ownBlock) (hv':v'.ownBlock=v.ownBlock\/v'.ownBlock=some w.heap.size):Ka O B w' v' (fs++[(nm,fl,t)])/\∀b,v'.ownBlock=some b->¬ O b:=by
 have hA:Ad (fun x=>v.ownBlock=some x) w w':=(Ad.refl _ w).grown hC fun k hk=>.inl hk;have hK:∀x,(x<w.heap.size/\¬ O x/\v.ownBlock≠some x)->¬ v.ownBlock=some x/\(x<w'.heap.size/\¬ O x/\v'.ownBlock≠some x):=fun x hx=>⟨hx.2.2,Nat.lt_of_lt_of_le hx.1 hA.size,hx.2.1,fun e=>by
  rcases hv' with h|h
  ·exact hx.2.2 (h ▸ e)
  ·rw[h]at e;injection e with e
   have:=hx.1;omega⟩
 refine⟨⟨_,by rw[List.length_append];exact ho,fun i hi=>?_⟩,fun b e eo=>?_⟩
 ·rw[List.length_append,List.length_singleton]at hi;by_cases hB:i<fs.length
  ·obtain⟨a1,a2,a3,cs',a4,a5⟩:=h2 i hB;have L:∀ {j:Nat} {u:Value},vs[j]?=some u->(vs++(.string nm :: .int .i64 fl :: cs))[j]?=some u:=fun h=>by rw[List.getElem?_append_left (List.getElem?_eq_some_iff.1 h).1];exact h
   rw[List.getElem_append_left hB];exact⟨L a1,L a2,a3,cs',a4.but hA hK,fun j u hj=>L (a5 j u hj)⟩
  ·obtain rfl:i=fs.length:=by omega
   have e:(fs++[(nm,fl,t)])[fs.length]'(by simp)=(nm,fl,t):=by rw[List.getElem_append_right (by omega)];simp
   rw[e];refine⟨?_,?_,hn,cs,ht.but hA hK,fun j u hj=>?_⟩
   ·rw[List.getElem?_append_right (by omega),show fs.length*8 - vs.length=0 from by omega];rfl
   ·rw[List.getElem?_append_right (by omega),show fs.length*8+1 - vs.length=1 from by omega];rfl
   ·rw[List.getElem?_append_right (by omega),show fs.length*8+2+j - vs.length=j+2 from by omega];simpa using hj
 ·rcases hv' with h|h
  ·exact hD b (h ▸ e) eo
  ·rw[h]at e;injection e with e
   have:=hg b eo;omega
theorem Ka.list {O:Nat->Prop}{B:Nat}{w:World}{v:Value}{fs:Bv}(h:Ka O B w v fs) (hg:∀b,v.ownBlock=some b->¬ O b) (hl:fs.length<=1000000000000000):∃A c,v=.slice A fs.length c/\Du (fun b=>b<w.heap.size/\¬ O b) w fs A c:=by
 obtain⟨vs,h1,h2⟩:=h;rcases h1.2 with ⟨hv,hn⟩|⟨b,cap,cur,hv,hB,hh,hA,hC,hE,hD⟩
 ·have hn:fs=[]:=List.eq_nil_of_length_eq_zero hn;subst hn;exact⟨none,0,hv,⟨0,0,⟨by simp,by simp,fun _=>rfl,fun h=>absurd h (by simp)⟩,fun i h=>absurd h (by simp)⟩⟩
 ·have hb:=(Array.getElem?_eq_some_iff.1 hh).1;have hc:∀ {j:Nat} {u:Value},vs[j]?=some u->w.cell? ⟨b,j,none⟩=some u:=fun {j u} hj=>by
   rw[Ch hh];rw[<-hD,List.getElem?_take]at hj
   split at hj
   ·simpa using hj
   ·cases hj
  refine⟨_,cap,hv,⟨b,0,⟨hA,hl,(fun h=>by cases h),fun _=>⟨rfl,hb,hg b (by rw[hv];rfl)⟩⟩,fun i hi=>?_⟩⟩;obtain⟨a1,a2,a3,cs,a4,a5⟩:=h2 i hi;refine⟨by rw[Nat.zero_add];exact hc a1,by rw[Nat.zero_add];exact hc a2,a3,cs,fun j u hj=>by rw[Nat.zero_add];exact hc (a5 j u hj),a4.weak fun x hx=>⟨hx.1,hx.2.1⟩⟩
theorem Jf2 (x y:Z8):Bx y (Cf x)=false:=by
 unfold Cf;rw[Fd];simp[Mh,Fl,Ox,Ff]
theorem Je4 {W:World}{b o:Nat}{cs:Array Value}{T:TypeId}{z:Nat×Nat}(h:W.heap[b]?=some (.cells cs T z)) (v:Value):(W.setCell ⟨b,o,none⟩ v).heap[b]?=some (.cells (cs.setIfInBounds o v) T z):=by
 simp[World.setCell,Array.getElem?_modify,h]
theorem Ka.low {O:Nat->Prop}{B:Nat}{w:World}{v:Value}{fs:Bv}(h:Ka O B w v fs) {b:Nat}(hb:v.ownBlock=some b):B<=b/\b<w.heap.size:=by
 obtain⟨vs,h1,-⟩:=h;refine⟨?_,Jgc h1 hb⟩;rcases h1.2 with ⟨hv,-⟩|⟨c,cap,cur,hv,hB,-⟩
 ·rw[hv]at hb;cases hb
 ·rw[hv]at hb;injection hb with hb
  have hb:c=b:=hb;omega
theorem Te {K K':Nat->Prop}{w w':World}{x:Z8}{es:List Value}(h:An K w (Cf x) es):An K' w' (Cf x) es:=by
 obtain⟨A,c,B,d,C,e,rfl,ht,⟨b1,o1,h1,-⟩,⟨b2,o2,h2,-⟩,b3,o3,h3,-⟩:=An.inv (k:=10) (t:=x) (n:=0) (ps:=[]) (fs:=[]) (vs:=[]) h;exact An.of (k:=10) (n:=0) (ps:=[]) (fs:=[]) (vs:=[]) ht ⟨b1,o1,⟨h1.le,h1.big,h1.none,fun h=>absurd h (by simp)⟩,fun i hi=>absurd hi (by simp)⟩ ⟨b2,o2,⟨h2.le,h2.big,h2.none,fun h=>absurd h (by simp)⟩,fun i hi=>absurd hi (by simp)⟩ ⟨b3,o3,⟨h3.le,h3.big,h3.none,fun h=>absurd h (by simp)⟩,fun i hi=>absurd hi (by simp)⟩
theorem H9 (x:Z8):Am (Cf x)=1:=by unfold Cf;rw[B0];rfl
theorem Jcx (x:Z8):Dy (Cf x)=true:=by unfold Cf;rw[L4];simp
theorem Lq {w:World}{base:Nat}{e:TypeId}{size n:Nat}{v:Value}{xs:List Value}(h:w.ownsRow base e size v n xs) {b:Nat}(hb:v.ownBlock=some b):∃c,w.heap[b]?=some (.cells c e (0,0)):=by
 rcases h.2 with ⟨hv,-⟩|⟨g,cap,cur,hv,hB,hh,-⟩
 ·rw[hv]at hb;cases hb
 ·rw[hv]at hb;have e1:some g=some b:=hb;injection e1 with e1
  subst e1;exact⟨_,hh⟩
theorem Wc {B:Nat}{K:Nat->Prop}{w0 w:World}{v v':Value}{l:List Z8}{ts:List Ty}(h:Vl B w v l) (ho:Cl K w0 w v' ts) {b:Nat}(h1:v.ownBlock=some b) (h2:v'.ownBlock=some b):False:=by
 obtain⟨c1,e1⟩:=Lq h h1;obtain⟨vs,ho,-⟩:=ho;obtain⟨c2,e2⟩:=Lq ho h2;rw[e1]at e2;injection e2 with e2
 injection e2 with _ e2
 exact absurd e2 (by decide)
theorem Ct.butM {wk sb:Nat}{n0:Z8}{w w':World}{m:Option Nat}{act:Bool}{O:Nat->Prop}(h:Ct wk sb n0 w m act) (hb:Ad O w w') (hO:∀x,O x->x=wk\/x=sb\/w.heap.size<=x\/m≠some x):Ct wk sb n0 w' m act:=by
 cases m with
 | none=>exact h
 | some b=>
  obtain⟨h1,h2,h3,n,h4,h5⟩:=h;refine⟨h1,h2,Nat.lt_of_lt_of_le h3 hb.size,n,h4,h5.keep (hb.block b h3 fun e=>?_)⟩;rcases hO b e with h|h|h|h
  ·exact h2 h
  ·exact h1 h
  ·omega
  ·exact h rfl
theorem P8 (l:List Nat) (i:Nat):(l.take i).sum<=l.sum:=by
 induction l generalizing i with
 | nil=>simp
 | cons a l ih=>
  cases i with
  | zero=>simp
  | succ i=>
   rw[List.take_succ_cons,List.sum_cons,List.sum_cons];exact Nat.add_le_add_left (ih i) _
def Fq (act:Bool) (N:List Z8) (x:Z8) (t:Ty):Bool:=act && (N.isEmpty || (Bx x t && !Dp N x))
theorem Rk.setq {P:Nat->Prop}{w:World}{g i d q:Nat}{l:Bw}{nm:Z8}{b:List Ty}{B:Option Addr}(h:Rk P w g l) (hP:∀x,P x->x≠g) (hi:i<l.length) (hA:nm.size<=1000000000000000) (hq:q=b.length) (ht:Bh P w b B d):Rk P (Lr w g (i*2) (.string nm) (.slice B q d)) g (l.set i (nm,b)):=by
 subst hq;exact h.set hP hi hA ht
theorem V8 (x:Z8) (ps:List Ty) (vs:Bw):Bx x (Fe ps vs)=(It x ps || Mh x vs):=by
 unfold Fe;rw[Fd];simp only[Ff,List.any_nil,Bool.not_false,Bool.true_and,Mh,Ox,Bool.or_false,Bool.false_or];rw[Jg (fun i=>Ix (by decide) (by decide) i)];unfold It;rw[List.any_append,List.any_flatten,List.any_map];rfl
theorem R3 (ps:List Ty) (vs:Bw):Am (Fe ps vs)=1+(Au ps+Br vs):=by
 unfold Fe;rw[B0,Iw];have:Au (vs.map (·.2)).flatten=Br vs:=by
  induction vs with
  | nil=>rfl
  | cons a l ih=>
   rw[List.map_cons,List.flatten_cons,Iw,ih];unfold Br;rw[List.map_cons,List.sum_cons]
 rw[this];show 1+(Au ps+Br vs+(Bm []+Br []))=_;unfold Bm Br;simp
theorem X6 {ps:List Ty}{vs:Bw}(hp:∀p∈ps,Ai p=true/\Dy p=true) (hv:∀v∈vs,∀b∈v.2,Ai b=true/\Dy b=true):Ai (Fe ps vs)=true/\Dy (Fe ps vs)=true:=by
 have h:∀p∈ps++(vs.map (·.2)).flatten,Ai p=true/\Dy p=true:=fun p h=>by
  rcases List.mem_append.1 h with h|h
  ·exact hp p h
  ·obtain⟨l,hl,h⟩:=List.mem_flatten.1 h;obtain⟨v,hA,rfl⟩:=List.mem_map.1 hl;exact hv v hA p h
 unfold Fe
 constructor
 ·rw[Aw,show Ak 12=⟨false,false,false,false,0,-1,true⟩ from rfl,Bool.and_eq_true,List.all_eq_true];refine⟨?_,fun p hp=>(h p hp).1⟩;unfold Ar Bq;simp[J1];omega
 ·rw[L4];simp only[List.length_nil,List.all_nil,Bool.true_and,Bool.and_true,List.all_eq_true,Bool.and_eq_true];exact⟨by decide,fun p hp=>(h p hp).2⟩
theorem Ui {Cc:Prop}{n0:Z8}{u:Ty}{K Z:Nat->Prop}{wk sb nd:Nat}{w:World}{bp op a g2:Nat}{m:Option Nat}{n:Int}{s:Z8}{ps:List Ty}{vs:Bw}{A B C:Option Addr}{c d e:Nat}
  (kF:∀wx,Ad (fun x=>x=sb\/x=wk\/x=g2) w wx->wx.cell? ⟨bp,op+3,none⟩=some (.slice A ps.length c)/\wx.cell? ⟨bp,op+5,none⟩=some (.slice C vs.length e)) (hP:Bh K w ps A c) (hV:Dd K w vs C e) (hK:∀x,K x->x<w.heap.size/\x≠sb/\x≠wk/\x≠g2) (hE:∀wx,Ad (fun x=>x=sb\/x=wk\/x=g2) w wx->Ct wk sb n0 wx m true) (hS:Cg K Z w sb u nd) (hX:Z sb) (hY:Z wk) (hW:Z g2) (hG:∀x,Z x->x<w.heap.size) (kU:w.heap[wk]?=some (.cells #[.int .i64 (a:Int)] 85 (0,0))) (kV:wk≠sb) (kM:g2≠sb/\g2≠wk) (kW:w.heap[g2]?=some (.cells #[.int .i64 13,.string s,.int .i64 n,.slice A ps.length c,.slice B 0 d,.slice C vs.length e] 26 (0,0))) (kK:a+(Au ps+Br vs)<=4096) (kL:∀p∈ps,Ai p=true/\Dy p=true) (ihp:∀p∈ps,M1 Cc n0 u p) (aI:vs=[]) (kQ:∀p∈ps,true=true->(nd=1/\Am u=1/\Cc)\/Bx n0 p=false) :
  Calls Tryz.prog 82 #[.pointer (some ⟨wk,0,none⟩),.pointer (some ⟨bp,op,none⟩),.pointer (some ⟨g2,0,none⟩),.map m] w (fun r w'=>r=.returned (.tuple #[])/\∃A' c' C' e',w'.heap[g2]?=some (.cells #[.int .i64 13,.string s,.int .i64 n,(.slice A' ps.length c'),.slice B 0 d,(.slice C' vs.length e')] 26 (0,0))/\Bh (fun x=>K x\/w.heap.size<=x) w' (ps.map (fun p=>if true=true then Bg n0 u p else p)) A' c'/\Dd (fun x=>K x\/w.heap.size<=x) w' (vs.map (fun v:Z8×List Ty=>(v.1,v.2.map (fun p=>if true=true then Bg n0 u p else p)))) C' e'/\w'.heap[wk]?=some (.cells #[.int .i64 ((a+(Au ps+Br vs):Nat):Int)] 85 (0,0))/\Cg K Z w' sb u nd/\Ad (fun x=>x=sb\/x=wk\/x=g2) w w'):=by
 have kN:g2<w.heap.size:=hG g2 hW;have hH:wk<w.heap.size:=hG wk hY;have kT:sb<w.heap.size:=hG sb hX;have hT:Z9 (g2<w.heap.size/\wk<w.heap.size/\sb<w.heap.size):=Hd ⟨kN,hH,kT⟩;have HX:=Hd kF;have HP:Z9 (∀wx,Ad (fun x=>x=sb\/x=wk\/x=g2) w wx->Bh K wx ps A c):=Hd fun wx hx=>hP.but hx fun x hk=>⟨fun h=>by have:=hK x hk;rcases h with h|h|h;exact this.2.1 h;exact this.2.2.1 h;exact this.2.2.2 h,hk⟩;have aE:Z9 (∀wx,Ad (fun x=>x=sb\/x=wk\/x=g2) w wx->Dd K wx vs C e):=Hd fun wx hx=>hV.but hx fun x hk=>⟨fun h=>by have:=hK x hk;rcases h with h|h|h;exact this.2.1 h;exact this.2.2.1 h;exact this.2.2.2 h,hk⟩;have hC:=Hd hK;have HE:=Hd hE;have hU:=Hd hS;have HZ:Z9 (Z sb/\Z wk/\Z g2/\∀x,Z x->x<w.heap.size):=Hd ⟨hX,hY,hW,hG⟩;have kX:=Hd kU;have aG:=Hd kV;have hA:=Hd kM;have aC:=Hd kW;have kY:=Hd kK;have kZ:=Hd kL;have aA:=Hd ihp;have aH:=Us ps;have aD:Z9 (ps.length<=4096):=Hd (by omega);have KC:=Hd (Pa hP (by omega));subst aI;have aB:=Hd kQ;clear kF hP hV hK hE hS hX hY hW hG kU kV kM kW kK kL ihp kN hH kT aH kQ;go_enter Tryz.func82,Tryz.ntmps82;obtain⟨x3,x5⟩:=HX.o w (Ad.refl _ _);go_wp2_with fail;refine KC.o.mono ?_;rintro r w2 ⟨A5,c5,rfl,ho,hZ⟩;have hL:=Hd hZ;have kP:=ho.list (fun b h=>(hC.o b h).1) hZ (by have:=aD.o;omega);clear ho hZ KC x3 x5;obtain⟨x3,x5⟩:=HX.o w2 (Ad.of_below hL.o);go_wp2_with fail
 go_loopw [8,9,24] (fun vn vp v wr=>(∃i:Nat,v=.int .i64 i)/\vn=.slice none 0 0/\vp=.slice A5 ps.length c5/\wr=w2) (fun _ _ _ _=>0)
 case atStart=>exact⟨⟨0,rfl⟩,rfl,rfl,rfl⟩
 case round=>
  obtain⟨⟨i,rfl⟩,rfl,rfl,hI⟩:=hrel;obtain rfl:w2=wr:=hI.symm;clear hI;have t1:decide ((i:Int)<(([]:Bw).length:Int))=false:=by simp
  have t1':decide ((i:Int)<0)=false:=by simp
  have KN:=Hd (Pn (A:=none) (c:=0) (A3:=A5) (l3:=ps.length) (c3:=c5) (A4:=none) (l4:=0) (c4:=0) (A5:=none) (l5:=0) (c5:=0) (k:=12) (n:=0) (s:=⟨#[]⟩) (HE.o w2 (Ad.of_below hL.o)));go_wp2_with fail;refine KN.o.mono ?_;rintro r w3 ⟨rfl,kG⟩;have hM:Z9 (Below w.heap.size w w3):=Hd (hL.o.trans (kG.mono hL.o.size));have KV:=Hd (Rv (aE.o w3 (Ad.of_below hM.o)));clear kG KN x3 x5;obtain⟨x3,x5⟩:=HX.o w3 (Ad.of_below hM.o);go_wp2_with fail;refine KV.o.mono ?_;rintro r w4 ⟨C',e',rfl,kE,kH⟩;have hN:Z9 (Below w.heap.size w w4):=Hd (hM.o.trans (kH.mono hM.o.size));have HCN:=Hd kE;have kB:=Ay hN.o hT.o.1 aC.o;obtain⟨w5,hO⟩:∃x,x=w4.setCell ⟨g2,5,none⟩ (.slice C' 0 e'):=⟨_,rfl⟩;have aF:=Hd hO;have hB:Ad (fun x=>x=g2) w4 w5:=by rw[hO];exact (Ad.refl (fun x=>x=g2) w4).put1 5 _
  have hD:Ad (fun x=>x=sb\/x=wk\/x=g2) w w5:=(Ad.of_below (O:=(fun x=>x=sb\/x=wk\/x=g2)) hN.o).trans hB fun x h=>.inl (.inr (.inr h));have hJ:w5.heap[g2]?=some (.cells #[.int .i64 13,.string s,.int .i64 n,.slice A ps.length c,.slice B 0 d,(.slice C' 0 e')] 26 (0,0)):=by rw[hO];exact C0 kB 5 _
  have kI:w5.heap[wk]?=some (.cells #[.int .i64 (a:Int)] 85 (0,0)):=hB.up (fun e=>hA.o.2 e.symm) (Ay hN.o hT.o.2.1 kX.o);have kR:Cg K Z w5 sb u nd:=(hU.o.but (Ad.of_below (O:=fun _=>False) hN.o) (fun h=>h) (fun x h=>h.elim) fun _ _ h=>h).but hB (fun e=>hA.o.1 e.symm) (fun x h=>.inl (by rw[show x=g2 from h];exact HZ.o.2.2.1)) fun x hx e=>(hC.o x hx).2.2.2 e;have KA:=Hd (M2 (act:=true) (HP.o w5 hD) (fun x hx=>⟨Nat.lt_of_lt_of_le (hC.o x hx).1 hD.size,(hC.o x hx).2.1,(hC.o x hx).2.2.1⟩) (HE.o w5 hD) kR HZ.o.1 HZ.o.2.1 (fun x h=>Nat.lt_of_lt_of_le (HZ.o.2.2.2 x h) hD.size) kI aG.o (by have:=kY.o;omega) kZ.o (fun p hp _=>aB.o p hp trivial) aA.o);have hQ:=Hd hD;have kD:=Hd hJ;obtain⟨q0,q1,q2,q3,q4,q5,z0,z1,z2,z3,z4,z5⟩:=Hr kB;clear kH kE kB hO hB hD hJ kI kR KV x3 x5;go_upto_region 10 with fail
  rw[<-aF.o];clear q0 q1 q2 q3 q4 q5 z0 z1 z2 z3 z4 z5;obtain⟨-,-,-,-,-,b5⟩:=Dw kD.o;go_wp2_with fail;clear b5 t1 t1';obtain⟨wl,hH⟩:∃x:World,x=w5:=⟨_,rfl⟩;have aJ:=Hd hH;clear hH
  go_loopw [59] (fun v wr=>(∃i:Nat,v=.int .i64 i)/\wr=w5) (fun _ _=>0)
  case atStart=>exact⟨⟨0,rfl⟩,rfl⟩
  case round=>
   obtain⟨⟨j,rfl⟩,hI⟩:=hrel;obtain rfl:w5=wr:=hI.symm;clear hI;have t1:decide ((j:Int)<0)=false:=by simp
   obtain⟨x3,x5⟩:=HX.o w5 hQ.o;go_wp2_with fail;refine KA.o.mono ?_;rintro r w6 ⟨A',c',rfl,kO,kJ,kS,kA⟩;have kC:=kA.up (by show ¬ (g2=sb\/g2=wk);have:=hA.o;omega) kD.o;obtain⟨q0,q1,q2,q3,q4,q5,z0,z1,z2,z3,z4,z5⟩:=Hr kC;have hF:Ad (fun x=>x=g2) w6 (w6.setCell ⟨g2,3,none⟩ (.slice A' ps.length c')):=(Ad.refl (fun x=>x=g2) w6).put1 3 _;have hR:Z9 (∃A1 c1 C1 e1,(w6.setCell ⟨g2,3,none⟩ (.slice A' ps.length c')).heap[g2]?=some (.cells #[.int .i64 13,.string s,.int .i64 n,.slice A1 ps.length c1,.slice B 0 d,.slice C1 0 e1] 26 (0,0))/\Bh (fun x=>K x\/w.heap.size<=x) (w6.setCell ⟨g2,3,none⟩ (.slice A' ps.length c')) (ps.map (fun p=>if true=true then Bg n0 u p else p)) A1 c1/\Dd (fun x=>K x\/w.heap.size<=x) (w6.setCell ⟨g2,3,none⟩ (.slice A' ps.length c')) [] C1 e1/\(w6.setCell ⟨g2,3,none⟩ (.slice A' ps.length c')).heap[wk]?=some (.cells #[.int .i64 ((a+(Au ps+0):Nat):Int)] 85 (0,0))/\Cg K Z (w6.setCell ⟨g2,3,none⟩ (.slice A' ps.length c')) sb u nd/\Ad (fun x=>x=sb\/x=wk\/x=g2) w (w6.setCell ⟨g2,3,none⟩ (.slice A' ps.length c'))):=Hd ⟨A',c',C',e',C0 kC 3 _,kO.but hF fun x hx=>by
     have h1:=hT.o.1;have h2:=hQ.o.size;rcases hx with hx|hx
     ·exact⟨(hC.o x hx).2.2.2,.inl hx⟩
     ·exact⟨fun e=>by have e:x=g2:=e;omega,.inr (by omega)⟩,⟨0,0,⟨Nat.zero_le _,Nat.zero_le _,HCN.o,fun h=>absurd h (by simp)⟩,fun i hi=>absurd hi (by simp)⟩,hF.up (fun e=>hA.o.2 e.symm) kJ,kS.but hF (fun e=>hA.o.1 e.symm) (fun x h=>.inl (by rw[show x=g2 from h];exact HZ.o.2.2.1)) (fun x hx e=>(hC.o x hx).2.2.2 e),(hQ.o.trans kA fun x h=>.inl (h.imp id .inl)).trans hF fun x h=>.inl (.inr (.inr h))⟩
   clear KA x3 x5 kO kJ kS kA kC hF;go_wp2_with fail;exact bodyPost_end (v:=.tuple #[]) (by simp[results,Tryz.results82,go_sem]) rfl ⟨rfl,hR.o⟩
