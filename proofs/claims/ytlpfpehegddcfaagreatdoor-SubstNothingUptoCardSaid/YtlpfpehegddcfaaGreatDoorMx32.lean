import Derived.Test.YtlpfpehegddcfaaGreatDoorMx31
namespace Go.Proofs.YtlpfpehegddcfaaGreatDoor
set_option maxRecDepth 100000
set_option maxHeartbeats 64000000
open Go.RowKit
structure Jaz (K Z:Nat->Prop) (wk sb:Nat) (n0:Z8) (u:Ty) (nd:Nat) (M:Nat) (w3 wr:World) (vc:Value):Prop where
 env:Cp wk sb n0 wr (some M) true
 sta:Ce K Z wr sb u nd
 but:Ad (fun x=>x=sb\/x=M) w3 wr
 row:∃C A c,vc=.slice A C.length c/\Cg wr C A/\∀y∈C,Bp y u=true
theorem Zx {l:List Z8}{i:Nat}(hi:i<l.length) (y:Z8):Dc (l.take (i+1)) y=(Dc (l.take i) y || decide ((l[i]'hi)=y)):=by
 rw[Bool.eq_iff_iff,Bool.or_eq_true,Dh,Dh,List.take_succ_eq_append_getElem hi,List.mem_append,List.mem_singleton,decide_eq_true_iff];exact or_congr_right ⟨Eq.symm,Eq.symm⟩
theorem Zw {l:List Z8}(h:l.Nodup) {i:Nat}(hi:i<l.length):Dc (l.take i) (l[i]'hi)=false:=by
 rw[Bool.eq_false_iff,Ne,Dh];intro hm;obtain⟨j,hj,e⟩:=List.getElem_of_mem hm;rw[List.getElem_take]at e;have hA:j<i:=by rw[List.length_take]at hj;omega
 have h2:=List.pairwise_iff_getElem.1 h j i (by omega) hi hA;exact h2 e
theorem Sc {w:World}{lv:List Z8}{ad:Addr}(h:Cg w lv (some ad)):∀j u,(lv.map Value.string)[j]?=some u->w.cell? (ad.add j)=some u:=by
 intro j u hj;rw[List.getElem?_map]at hj;obtain⟨x,hx,rfl⟩:=Option.map_eq_some_iff.1 hj;obtain⟨hC,rfl⟩:=List.getElem?_eq_some_iff.1 hx;obtain⟨b,o,hA,-,hB⟩:=h;have e:=hA (by omega);injection e with e
 subst e;have h:=hB j hC;rcases Nat.eq_zero_or_pos j with rfl|hp
 ·exact h
 ·have e2:(Addr.mk b o none).add j=if j=0 then Addr.mk b o none else Addr.mk b (o+j) none:=by simp[Addr.add]
  rw[e2,if_neg (by omega)];exact h
theorem Jp {K Kt Z:Nat->Prop}{wk sb:Nat}{n0:Z8}{w:World}{m:Option Nat}{N:List Z8}{A:Option Addr}{c:Nat}{cs:List Value}{t u:Ty}{nd:Nat}
  (hN:Cg w N A) (aU:∀b o,A=some ⟨b,o,none⟩->b≠sb) (bZ:0<N.length) (hr:Aw Kt w t cs) (aY:∀x,Kt x->x<w.heap.size) (hK:∀x,K x->x<w.heap.size/\x≠sb/\x≠wk) (hE:Cp wk sb n0 w m true) (hS:Ce K Z w sb u nd) (hZ:Z sb) (aZ:∀x,Z x->x<w.heap.size) (bK:wk<w.heap.size)
  (kI:Aj t=true/\Dk t=true/\Am t<=5000) (bC:Aj u=true/\Dk u=true/\Am u<=5000) (bH:∀x,Bp x t=true->x.size<=maxLen) (kG:Bp n0 t=true->Dc N n0=false->∀x∈N,Bp x u=false) :
  Calls Tryz.prog 83 #[.slice A N.length c,.agg cs.toArray,.map m] w (fun e w'=>∃m',e=.returned (.tuple #[.slice A N.length c,.map m'])/\Cp wk sb n0 w' m' (Bp n0 t && !Dc N n0)/\Ce K Z w' sb u nd/\Ad (fun x=>x=sb) w w'/\∀b,m'=some b->w.heap.size<=b):=by
 have bG:sb<w.heap.size:=by
  obtain⟨es,fv,kn,hx,-⟩:=hS.ex;exact (Array.getElem?_eq_some_iff.1 hx).1
 obtain⟨w1,kV⟩:∃x,x=w.alloc (.cells cs.toArray 26):=⟨_,rfl⟩;have kF:Below w.heap.size w w1:=by rw[kV];exact (Below.refl _ _).alloc (Nat.le_refl _) _
 have aX:=hE.but (Ad.of_below (O:=fun _=>False) kF) fun _ h=>h.elim;obtain⟨z,hz,bL⟩:=aX.len;have f1:¬ z=0:=of_decide_eq_false bL;have hU:w1.heap[w.heap.size]?=some (.cells cs.toArray 26 (0,0)):=by rw[kV];exact heap_alloc_new w _
 have KF:=Hd (Ro (hr.later kF) (fun x hx=>Nat.lt_of_lt_of_le (aY x hx) kF.size) kI.1 kI.2.1 kI.2.2);have HT:=Hd kI;have HU:=Hd bC;have bW:=Hd bH;have aB:=Hd kG;have HK:=Hd hK;have aR:=Hd bG;have bX:=Hd bK;have HZ:=Hd hZ;have bY:=Hd aZ;have kY:=Hd kF;have HW1:=Hd kV;have HE:=Hd hE;have aS:=Hd hS;have HN:=Hd hN;have bM:=Hd aU;have bS:Z9 (N.length<=1000000000000000):=Hd (by obtain⟨_,_,_,h,_⟩:=hN;exact h);have f2:¬ (N.length:Int)=0:=by omega
 obtain⟨i0,cA,cE,cF,aO⟩:=Eg Hs;obtain⟨k,s,n,ps,fs,vs⟩:=t;obtain⟨A3,c3,A4,c4,A5,c5,rfl,-⟩:=hr.inv;simp only[Az]at hU HW1 KF ⊢;obtain⟨z0,z1,z2,z3,z4,z5⟩:w1.cell? ⟨w.heap.size,0,none⟩=some (.int .i64 k)/\w1.cell? ⟨w.heap.size,1,none⟩=some (.string s)/\w1.cell? ⟨w.heap.size,2,none⟩=some (.int .i64 n)/\w1.cell? ⟨w.heap.size,3,none⟩=some (.slice A3 ps.length c3)/\w1.cell? ⟨w.heap.size,4,none⟩=some (.slice A4 fs.length c4)/\w1.cell? ⟨w.heap.size,5,none⟩=some (.slice A5 vs.length c5):=⟨Ch hU 0,Ch hU 1,Ch hU 2,Ch hU 3,Ch hU 4,Ch hU 5⟩;have cC:=@run_makeMap Tryz.prog;clear bG kV kF aX bL hU kI bC bH kG hK bK hZ aZ hE hS hN aU bZ hr aY;go_enter Tryz.func83,Tryz.ntmps83;go_upto_region 1 with fail
 rw[<-HW1.o];go_upto_region 5 with fail
 clear hz;go_wp2_with fail;refine KF.o.mono ?_;rintro e w2 ⟨l,Al,cl,rfl,aM,kK,aL,bE,-,bB,bA⟩;clear z0 z1 z2 z3 z4 z5 KF;obtain⟨M,hM⟩:∃x,x=w2.heap.size:=⟨_,rfl⟩;obtain⟨w3,kW⟩:∃x,x=w2.alloc (.map #[] 0):=⟨_,rfl⟩;have aJ:Below w2.heap.size w2 w3:=by rw[kW];exact (Below.refl _ _).alloc (Nat.le_refl _) _
 have hF:Below w.heap.size w w2:=kY.o.trans (bA.mono kY.o.size);have hJ:Below w.heap.size w w3:=hF.trans (aJ.mono hF.size);have bJ:w.heap.size<=M:=by rw[hM];exact hF.size
 have aW:Cp wk sb n0 w3 (some M) false:=by
  rw[hM,kW];exact Cp.new (Nat.lt_of_lt_of_le bX.o hF.size) (Nat.lt_of_lt_of_le aR.o hF.size)
 have aP:Z9 (∀wr,Ad (fun x=>x=sb\/x=M) w3 wr->Cp wk sb n0 wr m true):=Hd fun wr hx=>HE.o.but ((Ad.of_below (O:=fun x=>x=sb\/x=M) hJ).trans hx fun x h=>.inl h) fun x h=>h.elim (fun e=>.inr (.inl e)) fun e=>.inr (.inr (by omega));have aQ:Z9 (∀wr,Ad (fun x=>x=sb\/x=M) w3 wr->Cg wr l Al):=Hd fun wr hx=>aM.butL ((Ad.of_below (O:=fun x=>x=sb\/x=M) aJ).trans hx fun x h=>.inl h) fun b o e cB h=>by
  have h1:=bB b o e;have h2:=kY.o.size;have h3:=aR.o;rcases h with h|h <;> omega
 have aF:Z9 (∀wr,Ad (fun x=>x=sb\/x=M) w3 wr->Cg wr N A):=Hd fun wr hx=>HN.o.butL ((Ad.of_below (O:=fun x=>x=sb\/x=M) hJ).trans hx fun x h=>.inl h) fun b o e cB h=>by
  have h1:=bM.o b o e;rcases h with h|h
  ·exact h1 h
  ·omega
 have bQ:Z9 (l.length<=1000000000000000):=Hd (by obtain⟨_,_,_,h,_⟩:=aM;exact h);have kD:=Hd kK;have bR:=Hd bE;have aC:=Hd aW;have HM:=Hd hM;have aT:=Hd kW;have kC:=Hd hJ;have kO:=Hd bJ;clear aM kK aL bE bB bA hM kW aJ hF hJ bJ aW;go_upto_region 7 with fail
 clear cC;rw[<-HM.o,<-aT.o];go_wp2_with fail
 go_loopw [10,32] (fun vc v wr=>∃i:Nat,i<=l.length/\v=.int .i64 i/\(((Dc (l.take i) n0 && !Dc N n0)=false/\vc=.slice none 0 0/\wr=w3)\/((Dc (l.take i) n0 && !Dc N n0)=true/\Jaz K Z wk sb n0 u nd M w3 wr vc))) (fun _ v _=>l.length - (intOf v).toNat)
 case atStart=>exact⟨0,Nat.zero_le _,rfl,.inl ⟨rfl,rfl,rfl⟩⟩
 case round=>
  obtain⟨i,hi,rfl,hR⟩:=hrel;have kU:=bQ.o;have hW:Ad (fun x=>x=sb\/x=M) w3 wr:=by
   rcases hR with ⟨-,-,h⟩|⟨-,hd⟩
   ·rw[h];exact Ad.refl _ _
   ·exact hd.but
  have kE:=aP.o wr hW;by_cases hQ:i<l.length
  ·have t1:decide ((i:Int)<(l.length:Int))=true:=by simp;omega
   have hI:wrap64 ((i:Int)+1)=((i+1:Nat):Int):=Ba (by omega);have hG:=Hd (Bg hQ);have kA:Z9 (i+1<=l.length):=Hd hQ;obtain⟨nb,no,hV,-,hX⟩:=aQ.o wr hW;have hA:=hV (by omega);subst hA;have z0:=hX i hQ;have hB:=Zx hQ;have hD:=Zw bR.o hQ;have kB:=bW.o _ ((kD.o _).1 (List.getElem_mem hQ));generalize (l[i]'hQ)=x at z0 hB hD kB;have lk:=kE.look x kB;have i1:(0:Int)<=(i:Int):=by omega
   have i2:(i:Int)<(l.length:Int):=by omega
   by_cases hx:n0=x
   ·subst hx;rw[show (true && decide (n0=n0))=true by simp,if_pos rfl]at lk;rcases hR with ⟨-,rfl,kX⟩|⟨h,-⟩
    ·obtain rfl:=kX.symm;have KC:=Hd (Jo (c:=c) (aF.o _ (Ad.refl _ _)) n0);obtain⟨w4,bI,aH,kR⟩:=aC.o.put kB;have hY:Ad (fun x=>x=sb\/x=M) w3 w4:=kR.mono fun x h=>.inr h;have hH:Ad (fun _=>False) w w4:=(Ad.of_below kC.o).trans kR fun x h=>.inr (by have:=kO.o;omega);have aI:Ce K Z w4 sb u nd:=aS.o.but hH (fun h=>h) (fun x h=>h.elim) fun _ _ h=>h;have KV:=Hd (Nt aI (fun x hx=>⟨Nat.lt_of_lt_of_le (HK.o x hx).1 hH.size,(HK.o x hx).2.1⟩) HZ.o (fun x hx=>Nat.lt_of_lt_of_le (bY.o x hx) hH.size) HU.o.1 HU.o.2.1 HU.o.2.2)
     cases hq:Dc N n0 with
     | true=>
      rw[hq]at KC;clear hi hW kE hV hX hB hD kB kU bI aH kR hY hH aI KV;go_wp2_with fail;refine KC.o.mono ?_;rintro e w5 ⟨rfl,hT⟩;obtain rfl:=hT.symm;clear hT;go_wp2_with fail;refine⟨⟨i+1,kA.o,by first|rfl|rw[hI],.inl ⟨by simp,by first|rfl|trivial,by trivial⟩⟩,?_⟩;first|exact hG.o|(rw[hI];exact hG.o)
     | false=>
      rw[hq]at KC;have kN:Z9 ((Dc (l.take (i+1)) n0 && !false)=true):=Hd (by rw[hB];simp);have bN:=Hd aH;have kZ:=Hd hY;clear hi hW kE hV hX hB hD kB kU aH kR hY hH aI hq;go_wp2_with fail;refine KC.o.mono ?_;rintro e w5 ⟨rfl,hT⟩;obtain rfl:=hT.symm;clear hT KC;go_wp2_with fail;refine KV.o.mono ?_;rintro e w5 ⟨lv,Av,cv,rfl,hlv,kT,aN,kQ,kS⟩;clear bI lk z0 KV;have hL:Ad (fun x=>x=sb\/x=M) w3 w5:=kZ.o.trans kS fun x h=>.inl (.inl h);have kP:Cp wk sb n0 w5 (some M) true:=bN.o.but kS fun x h=>.inr (.inl h);have aG:Z9 (w5.ownsRow w5.heap.size 9 1 (.slice none 0 0) 0 []):=Hd (World.ownsRow_nil _ _ _ _)
      cases Av with
      | none=>
       obtain rfl:=aN.1 rfl;obtain rfl:lv=[]:=by
        obtain⟨b,o,hA,-⟩:=hlv;exact List.eq_nil_of_length_eq_zero (Nat.eq_zero_of_not_pos fun h=>by cases hA h)
       have HD:Z9 (Jaz K Z wk sb n0 u nd M w3 w5 (.slice none 0 0)):=Hd ⟨kP,kQ,hL,[],none,0,rfl,hlv,fun y h=>absurd h (by simp)⟩;clear hlv kT aN kQ kS hL kP;simp only[List.length_nil];go_wp2_with fail;refine⟨⟨i+1,kA.o,by first|rfl|rw[hI],.inr ⟨kN.o,HD.o⟩⟩,?_⟩;first|exact hG.o|(rw[hI];exact hG.o)
      | some ad=>
       have bT:=Hd (Sc hlv);have bP:=Hd kT;have aE:Z9 (lv.length<=5000):=Hd (Nat.le_trans kT.2 HU.o.2.2);have bV:=Hd kQ;have aA:=Hd hL;have bO:=Hd kP;clear hlv kT aN kQ kS hL kP;go_wp2_with (at_builtin;go_loud (refine wpList_append_own _ rfl _ _ 46 rfl w5.heap.size 9 i0 (.string ⟨#[]⟩) 1 16 Tryz.underlying46 cA cE cF aO rfl (by decide) _ _ _ rfl aG.o ad lv.length cv (lv.map .string) rfl ?a0 ?a1 ?a2 ?a3 ?a4 ?a5 ?_))
       case a0=>simp
       case a1=>exact bT.o
       case a2=>
        intro v hv;obtain⟨x,-,rfl⟩:=List.mem_map.1 hv;rfl
       case a3=>have:=aE.o;unfold maxLen;omega
       case a4=>have:=aE.o;omega
       case a5=>exact Nat.le_refl _
       intro v' w6 kL hP _;have ho:Du w5.heap.size w6 v' lv:=by
        unfold Du;simpa using kL
       obtain⟨A6,c6,rfl,bD⟩:=ho.list (by have:=aE.o;omega);have hO:Ad (fun _=>False) w5 w6:=(Ad.refl _ _).grown hP fun k hk=>by simp[Value.ownBlock]at hk
       have HD:Z9 (Jaz K Z wk sb n0 u nd M w3 w6 (.slice A6 lv.length c6)):=Hd ⟨bO.o.but hO fun _ h=>h.elim,bV.o.but hO (fun h=>h) (fun x h=>h.elim) fun _ _ h=>h,aA.o.trans hO fun x h=>h.elim,lv,A6,c6,rfl,bD,fun y hy=>(bP.o.1 y).1 hy⟩;clear kL hP ho bD hO;go_wp2_with fail;refine⟨⟨i+1,kA.o,by first|rfl|rw[hI],.inr ⟨kN.o,HD.o⟩⟩,?_⟩;first|exact hG.o|(rw[hI];exact hG.o)
    ·rw[hD]at h;cases h
   ·have kM:((Dc (l.take (i+1)) n0 && !Dc N n0)=false/\u10=.slice none 0 0/\wr=w3)\/((Dc (l.take (i+1)) n0 && !Dc N n0)=true/\Jaz K Z wk sb n0 u nd M w3 wr u10):=by
     rw[hB,decide_eq_false (fun e=>hx e.symm),Bool.or_false];exact hR
    rw[show (true && decide (n0=x))=false by simp[hx],if_neg (by decide)]at lk;have kN:=Hd kM;clear hi hR hW kE hV hX hB hD kB kU kM;go_wp2_with fail;refine⟨⟨i+1,kA.o,by first|rfl|rw[hI],kN.o⟩,?_⟩;first|exact hG.o|(rw[hI];exact hG.o)
  ·have t1:decide ((i:Int)<(l.length:Int))=false:=by simp;omega
   obtain rfl:i=l.length:=by omega
   rw[List.take_length,show Dc l n0=Bp n0 (.mk k s n ps fs vs) from Bool.eq_iff_iff.2 (Dh.trans (kD.o n0))]at hR;obtain⟨C,Ac,cc,cD,hC,aV⟩:∃C Ac cc,u10=.slice Ac C.length cc/\Cg wr C Ac/\∀x∈N,Dc C x=false:=by
    rcases hR with ⟨-,hv,-⟩|⟨h,hd⟩
    ·exact⟨[],none,0,hv,⟨0,0,fun h=>absurd h (by simp),by simp,fun i h=>absurd h (by simp)⟩,fun x _=>rfl⟩
    ·obtain⟨C,Ac,cc,hv,hC,hy⟩:=hd.row;refine⟨C,Ac,cc,hv,hC,fun x hx=>?_⟩;rw[Bool.and_eq_true]at h;rw[Bool.eq_false_iff,Ne,Dh];intro hm;have h1:=hy x hm;rw[aB.o h.1 (by simpa using h.2) x hx]at h1
     cases h1
   have kH:∃m',(Ending.returned (.tuple #[.slice A N.length c,.map (some M)]):Ending)=.returned (.tuple #[.slice A N.length c,.map m'])/\Cp wk sb n0 wr m' (Bp n0 (.mk k s n ps fs vs) && !Dc N n0)/\Ce K Z wr sb u nd/\Ad (fun x=>x=sb) w wr/\∀b,m'=some b->w.heap.size<=b:=by
    refine⟨_,rfl,?_⟩;rcases hR with ⟨h,-,hw⟩|⟨h,hd⟩
    ·rw[h,hw];have hb:=Ad.of_below (O:=fun _=>False) kC.o;exact⟨aC.o,aS.o.but hb (fun h=>h) (fun x h=>h.elim) fun _ _ h=>h,Ad.of_below kC.o,fun b e=>by injection e with e;subst e;exact kO.o⟩
    ·rw[h];exact⟨hd.env,hd.sta,(Ad.of_below kC.o).trans hd.but fun x h=>h.imp id fun e=>by have:=kO.o;omega,fun b e=>by injection e with e;subst e;exact kO.o⟩
   have bU:=Hd (aF.o wr hW);have HC:=Hd hC;have HCN:=Hd aV;have aD:=Hd kH;subst cD;clear hi hQ hR hW kE kU hC aV kH aP aQ aF aC aT kC HM;generalize wr=wz at *;go_wp2_with fail
   go_loopw [59] (fun v wx=>(∃j:Nat,j<=N.length/\v=.int .i64 j)/\wx=wz) (fun v _=>N.length - (intOf v).toNat)
   case atStart=>exact⟨⟨0,Nat.zero_le _,rfl⟩,rfl⟩
   case round=>
    obtain⟨⟨j,hj,rfl⟩,kX⟩:=hrel;obtain rfl:=kX.symm;clear kX;have bF:=bS.o;clear t1;by_cases kJ:j<N.length
    ·have t1:decide ((j:Int)<(N.length:Int))=true:=(by simp;omega);have hI:wrap64 ((j:Int)+1)=((j+1:Nat):Int):=Ba (by omega);have hG:=Hd (Bg kJ);have kA:Z9 (j+1<=N.length):=Hd kJ;obtain⟨nb,no,hV,-,hX⟩:=bU.o;have hA:=hV (by omega);subst hA;have z0:=hX j kJ;have aK:=HCN.o _ (List.getElem_mem kJ);generalize (N[j]'kJ)=x at z0 aK;have KC:=Hd (Jo (c:=cc) HC.o x);rw[aK]at KC;have i1:(0:Int)<=(j:Int):=(by omega);have i2:(j:Int)<(N.length:Int):=(by omega);clear hj bF hV hX aK;go_wp2_with fail;refine KC.o.mono ?_;rintro e w5 ⟨rfl,hT⟩;obtain rfl:=hT.symm;clear hT;go_wp2_with fail;refine⟨⟨⟨j+1,kA.o,by first|rfl|rw[hI]⟩,by trivial⟩,?_⟩;first|exact hG.o|(rw[hI];exact hG.o)
    ·have t1:decide ((j:Int)<(N.length:Int))=false:=(by simp;omega);clear hj bF;go_wp2_with fail
     go_ret2
     exact aD.o
def Ci (n0:Z8) (u:Ty) (K Z:Nat->Prop) (wk sb nd:Nat) (w:World) (act:Bool) (a:Nat) (t:Ty):Ending->World->Prop:=fun e w'=>∃rs:List Value,e=.returned (.agg rs.toArray)/\Aw (fun x=>K x\/w.heap.size<=x) w' (if act=true then Bh n0 u t else t) rs/\w'.heap[wk]?=some (.cells #[.int .i64 ((a+Am t:Nat):Int)] 85 (0,0))/\Ce K Z w' sb u nd/\Ad (fun x=>x=sb\/x=wk) w w'
def Jg (Cc:Prop) (n0:Z8) (u:Ty) (t:Ty):Prop:=∀(K Z:Nat->Prop) (wk sb nd:Nat) (w:World) (bp op:Nat) (m:Option Nat) (act:Bool) (a:Nat),De K w t bp op->bp≠sb/\bp≠wk->(∀x,K x->x<w.heap.size/\x≠sb/\x≠wk)->Cp wk sb n0 w m act->Ce K Z w sb u nd->Z sb->Z wk->(∀x,Z x->x<w.heap.size)->w.heap[wk]?=some (.cells #[.int .i64 (a:Int)] 85 (0,0))->wk≠sb->a+Am t<=4096->Aj t=true/\Dk t=true->(act=true->(nd=1/\Am u=1/\Cc)\/Bp n0 t=false)->Calls Tryz.prog 43 #[.pointer (some ⟨wk,0,none⟩),.pointer (some ⟨bp,op,none⟩),.map m] w (Ci n0 u K Z wk sb nd w act a t)
structure Jeh (K:Nat->Prop) (wk sb bp op:Nat) (w:World) (k:Int) (s:Z8) (n:Int) (ps:List Ty) (fs:Bx) (vs:Bt) (A:Option Addr) (c:Nat) (B:Option Addr) (d:Nat) (C:Option Addr) (e:Nat) (w1:World) (g:Nat):Prop where
 HX:Z9 (∀wx,Ad (fun x=>x=sb\/x=wk) w1 wx->(wx.cell? ⟨bp,op,none⟩=some (.int .i64 k)/\wx.cell? ⟨bp,op+1,none⟩=some (.string s)/\wx.cell? ⟨bp,op+2,none⟩=some (.int .i64 n)/\wx.cell? ⟨bp,op+3,none⟩=some (.slice A ps.length c)/\wx.cell? ⟨bp,op+4,none⟩=some (.slice B fs.length d)/\wx.cell? ⟨bp,op+5,none⟩=some (.slice C vs.length e)))
 HY:Z9 (∀wx,Ad (fun x=>x=sb\/x=wk) w1 wx->wx.heap[g]?=some (.cells #[.int .i64 0,.string ⟨#[]⟩,.int .i64 0,.slice none 0 0,.slice none 0 0,.slice none 0 0] 26 (0,0)))
 HB:Z9 (Below w.heap.size w w1)
 HS:Z9 (w1.heap.size=g+1)
 HG:Z9 (g=w.heap.size)
 HW:Z9 (w1=w.alloc (.cells #[.int .i64 0,.string ⟨#[]⟩,.int .i64 0,.slice none 0 0,.slice none 0 0,.slice none 0 0] 26))
 HP:Z9 (∀wx,Ad (fun x=>x=sb\/x=wk) w1 wx->Bk K wx ps A c)
 HF:Z9 (∀wx,Ad (fun x=>x=sb\/x=wk) w1 wx->Dt K wx fs B d)
 HV:Z9 (∀wx,Ad (fun x=>x=sb\/x=wk) w1 wx->Da K wx vs C e)
 HT:Z9 (s.size<=1000000000000000)
 HM:Z9 (wk<g/\sb<g)
 HR:Z9 (∀wx,Ad (fun x=>x=sb\/x=wk) w1 wx->Aw K wx (.mk k s n ps fs vs) [.int .i64 k,.string s,.int .i64 n,.slice A ps.length c,.slice B fs.length d,.slice C vs.length e])
theorem Ia {K:Nat->Prop}{wk sb bp op:Nat}{w:World}{k:Int}{s:Z8}{n:Int}{ps:List Ty}{fs:Bx}{vs:Bt}{R:Prop}(ha:De K w (.mk k s n ps fs vs) bp op) (hC:bp≠sb/\bp≠wk) (hK:∀x,K x->x<w.heap.size/\x≠sb/\x≠wk) (hm:wk<w.heap.size/\sb<w.heap.size)
  (main:∀(A:Option Addr) (c:Nat) (B:Option Addr) (d:Nat) (C:Option Addr) (e:Nat) (w1:World) (g:Nat),Jeh K wk sb bp op w k s n ps fs vs A c B d C e w1 g->R):R:=by
 obtain⟨cs,h1,h2⟩:=ha;obtain⟨A,c,B,d,C,e,rfl,ht,hL,hF,hV⟩:=h2.inv;simp only[Az]at h1 h2;obtain⟨w1,hB⟩:∃x,x=w.alloc (.cells #[.int .i64 0,.string ⟨#[]⟩,.int .i64 0,.slice none 0 0,.slice none 0 0,.slice none 0 0] 26):=⟨_,rfl⟩;have hA:Below w.heap.size w w1:=by rw[hB];exact (Below.refl _ _).alloc (Nat.le_refl _) _
 have hz:w1.heap[w.heap.size]?=some (.cells #[.int .i64 0,.string ⟨#[]⟩,.int .i64 0,.slice none 0 0,.slice none 0 0,.slice none 0 0] 26 (0,0)):=by rw[hB];exact heap_alloc_new w _
 have hk:∀x,K x->¬ (x=sb\/x=wk)/\K x:=fun x hx=>⟨fun h=>h.elim (hK x hx).2.1 (hK x hx).2.2,hx⟩;refine main A c B d C e w1 _ ⟨Hd fun wx hx=>?_,Hd fun wx hx=>hx.up (by omega) hz,Hd hA,Hd (by rw[hB];simp),Hd rfl,Hd hB,Hd fun wx hx=>(hL.later hA).but hx hk,Hd fun wx hx=>(hF.later hA).but hx hk,Hd fun wx hx=>(hV.later hA).but hx hk,Hd ht,Hd hm,Hd fun wx hx=>(h2.later hA).but hx hk⟩;have hc:=fun j u (hj:([.int .i64 k,.string s,.int .i64 n,.slice A ps.length c,.slice B fs.length d,.slice C vs.length e]:List Value)[j]?=some u)=>hx.cell (p:=⟨bp,op+j,none⟩) (fun h=>h.elim hC.1 hC.2) (Aa hA (h1 j u hj));exact⟨hc 0 _ rfl,hc 1 _ rfl,hc 2 _ rfl,hc 3 _ rfl,hc 4 _ rfl,hc 5 _ rfl⟩
theorem Dx {wk sb g:Nat}{w w1 w6 W:World}(h1:Below w.heap.size w w1) (h2:Ad (fun x=>x=sb\/x=wk) w1 w6) (hg:g=w.heap.size) (h3:Ad (fun x=>x=g) w6 W):Ad (fun x=>x=sb\/x=wk) w W:=
 ((Ad.of_below (O:=(fun x=>x=sb\/x=wk)) h1).trans h2 fun x hx=>.inl hx).trans h3 fun x hx=>.inr (by omega)
theorem U5 {n0:Z8}{u:Ty}{K Z:Nat->Prop}{wk sb nd:Nat}{w:World}{bp op a:Nat}{m:Option Nat}{k:Int}{s:Z8}{n:Int}{ps:List Ty}{fs:Bx}{vs:Bt}(ha:De K w (.mk k s n ps fs vs) bp op) (hW:bp≠sb/\bp≠wk) (hK:∀x,K x->x<w.heap.size/\x≠sb/\x≠wk) (hE:Cp wk sb n0 w m false) (hS:Ce K Z w sb u nd) (hU:Z wk) (hQ:w.heap[wk]?=some (.cells #[.int .i64 (a:Int)] 85 (0,0))) (kA:wk≠sb) (kJ:a+Am (.mk k s n ps fs vs)<=4096) :
  Calls Tryz.prog 43 #[.pointer (some ⟨wk,0,none⟩),.pointer (some ⟨bp,op,none⟩),.map m] w (Ci n0 u K Z wk sb nd w false a (.mk k s n ps fs vs)):=by
 obtain⟨PO,hO⟩:∃PO:Ending->World->Prop,PO=Ci n0 u K Z wk sb nd w false a (.mk k s n ps fs vs):=⟨_,rfl⟩;have hN:Z9 (∀e w',(∃rs:List Value,e=.returned (.agg rs.toArray)/\Aw (fun x=>K x\/w.heap.size<=x) w' (.mk k s n ps fs vs) rs/\w'.heap[wk]?=some (.cells #[.int .i64 ((a+Am (.mk k s n ps fs vs):Nat):Int)] 85 (0,0))/\Ce K Z w' sb u nd/\Ad (fun x=>x=sb\/x=wk) w w')->PO e w'):=Hd fun e w' h=>by
  rw[hO];unfold Ci;rw[if_neg (by decide)];exact h
 rw[<-hO];have hP:wk<w.heap.size:=(Array.getElem?_eq_some_iff.1 hQ).1;have hZ:sb<w.heap.size:=by
  obtain⟨es,fv,kn,hx,-⟩:=hS.ex;exact (Array.getElem?_eq_some_iff.1 hx).1
 refine Ia ha hW hK ⟨hP,hZ⟩ fun A c B d C e w1 g h=>?_;obtain⟨HX,HY,hI,HS1,HG,HW1,HP,kL,kN,kM,kD,hT⟩:=h;have hF:=Hd (Bj hI.o hP hQ);have hR:=Hd hK;have kF:=Hd hS;have kH:=Hd hU;have kG:=Hd kA;obtain⟨z,hz,kB⟩:=(hE.but (Ad.of_below (O:=fun _=>False) hI.o) fun _ h=>h.elim).len;obtain rfl:z=0:=of_decide_eq_true kB;obtain⟨Y,hY⟩:∃Y:Nat,Y=Cj (Am (.mk k s n ps fs vs)):=⟨_,rfl⟩;have kI:Y=Am (.mk k s n ps fs vs):=by rw[hY];unfold Cj;omega
 obtain⟨n1,kK⟩:∃n1,n1=a+Y:=⟨_,rfl⟩;have KN:Z9 (Calls Tryz.prog 52 #[.agg #[.int .i64 k,.string s,.int .i64 n,.slice A ps.length c,.slice B fs.length d,.slice C vs.length e]] w1.drew fun e w'=>e=.returned (.int .i64 (Y:Int))/\Below w1.drew.heap.size w1.drew w'):=Hd ((Kb (hT.o w1.drew (Ad.of_below (Below.refl _ _).drew))).mono fun e w' h=>⟨by rw[hY];exact h.1,h.2⟩);have w12:wrap64 ((a:Int)+(Y:Int))=(n1:Int):=by rw[Cm (by omega) (by omega)];omega
 have v12:IntKind.i64.wrap ((a:Int)+(Y:Int))=(n1:Int):=(Hz _).trans w12;have kE:Z9 (n1=a+Am (.mk k s n ps fs vs)):=Hd (by omega);have c0:=Ch hF.o 0;simp only[List.getElem?_toArray,List.getElem?_cons_zero]at c0;have t1:decide ((4096:Int)<(a:Int))=false:=decide_eq_false (by omega);have t1':¬ (4096:Int)<(a:Int):=by omega
 have t1'':¬ 4096<a:=by omega
 clear ha hW hK hE hS hU hQ kA kJ hP hZ hO kB hY kI kK;go_enter Tryz.func43,Tryz.ntmps43;go_upto_region 1 with fail
 rw[<-HW1.o,<-HG.o];go_upto_region 4 with fail
 clear c0 hz;refine wp_region_held_drew (S:=(fun w'=>(w'.cell? ⟨bp,op,none⟩=some (.int .i64 k)/\w'.cell? ⟨bp,op+1,none⟩=some (.string s)/\w'.cell? ⟨bp,op+2,none⟩=some (.int .i64 n)/\w'.cell? ⟨bp,op+3,none⟩=some (.slice A ps.length c)/\w'.cell? ⟨bp,op+4,none⟩=some (.slice B fs.length d)/\w'.cell? ⟨bp,op+5,none⟩=some (.slice C vs.length e)))) (by kernel_rfl) (HX.o _ (Ad.of_below (Below.refl _ _).drew)) (fun hA=>?_);refine Ab.s [0,1,2,4,5,6] ?_
 iterate 6 (refine Ab.k (so rfl) hA ?_;try simp only[Act.put,Bd,Be,Bf])
 refine Ab.d ?_;refine wpAnyH_ready (rs:=[3,7]) (by kernel_rfl) (by simp) ?_;refine AllReadyH.cons (sd (some 27) rfl) (fun Kx hK=>?_) (AllReadyH.cons (sd (some 31) rfl) (fun Kx hK=>?_) AllReadyH.nil);have v3:World.cell? (World.drew w1) ⟨wk,0,none⟩=some (.int .i64 a):=by rw[Ch (show (World.drew w1).heap[wk]?=_ from hF.o)];rfl
 go_simp;clear v3;refine hK.out _ _ (HX.o _ (Ad.of_below (Below.refl _ _).drew)) (fun hA=>?_);clear hK Kx;try simp only[Act.put,Bd,Be,Bf]
 refine wpAnyH_ready (rs:=[7]) (by kernel_rfl) (by simp) ?_;refine AllReadyH.cons (sd (some 31) rfl) (fun Kx hK=>?_) AllReadyH.nil;go_simp;refine KN.o.mono ?_;rintro e v5 ⟨rfl,hH⟩;have hB:Z9 (Below w1.heap.size w1 v5):=Hd ((Below.refl w1.heap.size w1).drew.trans hH);clear hH KN;go_wp2_with fail;refine hK.out _ _ (HX.o _ (Ad.of_below hB.o)) (fun hA=>?_);clear hK Kx;try simp only[Act.put,Bd,Be,Bf]
 have hD:=Hd (Bj hB.o (Array.getElem?_eq_some_iff.1 hF.o).1 hF.o);have v3:=Ch hD.o 0;have v4:=Lib.frozen_of_heap hD.o 0;simp only[List.getElem?_toArray,List.getElem?_cons_zero]at v3;rotate_left;go_simp;refine KN.o.mono ?_;rintro e v5 ⟨rfl,hH⟩;have hB:Z9 (Below w1.heap.size w1 v5):=Hd ((Below.refl w1.heap.size w1).drew.trans hH);clear hH KN;go_wp2_with fail;refine hK.out _ _ (HX.o _ (Ad.of_below hB.o)) (fun hA=>?_);clear hK Kx;try simp only[Act.put,Bd,Be,Bf]
 have hD:=Hd (Bj hB.o (Array.getElem?_eq_some_iff.1 hF.o).1 hF.o);have v3:=Ch hD.o 0;have v4:=Lib.frozen_of_heap hD.o 0;simp only[List.getElem?_toArray,List.getElem?_cons_zero]at v3;refine wpAnyH_ready (rs:=[3]) (by kernel_rfl) (by simp) ?_;refine AllReadyH.cons (sd (some 27) rfl) (fun Kx hK=>?_) AllReadyH.nil;go_simp;refine hK.out _ _ (HX.o _ (Ad.of_below hB.o)) (fun hA=>?_);clear hK Kx;try simp only[Act.put,Bd,Be,Bf]
 all_goals (
  refine Ab.s [8,9,10] ?_
  iterate 3 (refine Ab.k (so rfl) hA ?_;try simp only[Act.put,Bd,Be,Bf])
  refine Ab.d ?_;refine wpAnyH_ready (rs:=[11]) (by kernel_rfl) (by simp) ?_;refine AllReadyH.cons (sd none rfl) (fun Kx hK=>?_) AllReadyH.nil;go_simp;clear v3 v4;obtain⟨w6,hL⟩:∃x,x=v5.setCell ⟨wk,0,none⟩ (.int .i64 (n1:Int)):=⟨_,rfl⟩;have hC:Ad (fun x=>x=wk) w1 w6:=by rw[hL];exact (Ad.of_below hB.o).put1 0 _
  have hV:Ad (fun x=>x=sb\/x=wk) w1 w6:=hC.mono fun x h=>.inr h;have hX:w6.heap[wk]?=some (.cells #[.int .i64 (n1:Int)] 85 (0,0)):=by rw[hL];exact Cw hD.o 0 _
  have hG:=Hd hV;have hM:=Hd hC;have kC:=Hd hX;rw[<-hL];clear hL hV hC hX;refine hK.out _ _ (HX.o _ hG.o) (fun hA=>?_);clear hK Kx;try simp only[Act.put,Bd,Be,Bf]
  refine wpAnyH_done (by kernel_rfl) ?_ _;clear hA;obtain⟨x0,x1,x2,x3,x4,x5⟩:=HX.o _ hG.o;have rb:=HY.o w6 hG.o;go_upto_region 5 with fail
  obtain⟨q0,q1,q2,q3,q4,q5,z0,z1,z2,z3,z4,z5⟩:=Je rb;have RBX:=Hd rb;clear rb;go_wp2_with fail;obtain⟨r0,r1,r2,r3,r4,r5⟩:=D4 (Cd RBX.o (.int .i64 k) (.string s) (.int .i64 n) (.slice A ps.length c) (.slice B fs.length d) (.slice C vs.length e));clear q0 q1 q2 q3 q4 q5 z0 z1 z2 z3 z4 z5;refine bodyPost_ret (v:=.agg #[.int .i64 k,.string s,.int .i64 n,.slice A ps.length c,.slice B fs.length d,.slice C vs.length e]) (by simp[results,Tryz.results43,go_sem,r0,r1,r2,r3,r4,r5]) rfl ?_;clear r0 r1 r2 r3 r4 r5;have hJ:=Cr w6 g (.int .i64 k) (.string s) (.int .i64 n) (.slice A ps.length c) (.slice B fs.length d) (.slice C vs.length e);have h1:=kE.o;have h2:=kD.o;have h3:=HG.o;refine hN.o _ _ ⟨[.int .i64 k,.string s,.int .i64 n,.slice A ps.length c,.slice B fs.length d,.slice C vs.length e],rfl,?_,by rw[<-h1];exact hJ.up (by show ¬ wk=g;omega) kC.o,?_,Dx hI.o hG.o HG.o hJ⟩
  ·exact (hT.o w6 hG.o).but hJ fun x hx=>⟨fun e=>by have h1:=(hR.o x hx).1;omega,.inl hx⟩
  ·have h4:Ad (fun x=>x=wk) w _:=((Ad.of_below (O:=fun x=>x=wk) hI.o).trans hM.o fun x hx=>.inl hx).trans hJ fun x hx=>.inr (by omega);exact kF.o.but h4 (fun h=>kG.o h.symm) (fun x h=>.inl (h ▸ kH.o)) fun x hx=>(hR.o x hx).2.2)
theorem Xi {K:Nat->Prop}{w:World}{u:Ty}{cs:List Value}(hr:Aw K w u cs) :
  Calls Tryz.prog 42 #[.agg cs.toArray] w fun e w'=>∃sb,e=.returned (.pointer (some ⟨sb,0,none⟩))/\w.heap.size<=sb/\(∀Z,Ce K Z w' sb u (Cj (Am u)))/\Below w.heap.size w w':=by
 obtain⟨w1,hC⟩:∃x,x=w.alloc (.cells cs.toArray 26):=⟨_,rfl⟩;obtain⟨g,hg⟩:∃g,g=w.heap.size:=⟨_,rfl⟩;have hH:Below w.heap.size w w1:=by rw[hC];exact (Below.refl _ _).alloc (Nat.le_refl _) _
 have hL:w1.heap[g]?=some (.cells cs.toArray 26 (0,0)):=by rw[hC,hg];exact heap_alloc_new w _
 have hR:g<w1.heap.size:=(Array.getElem?_eq_some_iff.1 hL).1;obtain⟨Y,hY⟩:∃Y:Nat,Y=Cj (Am u):=⟨_,rfl⟩;have hG:=Kb ((hr.later hH).later (Below.refl w1.heap.size w1).drew);rw[<-hY]at hG ⊢;have hO:=Hd (hr.later hH);obtain⟨k4,s4,n4,hD,hB,hE⟩:=u;obtain⟨A4,c4,B4,d4,C4,e4,rfl,-⟩:=hr.inv;simp only[Az]at hL hG hO hC ⊢;have HU:Z9 (∀wx,Below w1.heap.size w1 wx->(wx.cell? ⟨g,0,none⟩=some (.int .i64 k4)/\wx.cell? ⟨g,1,none⟩=some (.string s4)/\wx.cell? ⟨g,2,none⟩=some (.int .i64 n4)/\wx.cell? ⟨g,3,none⟩=some (.slice A4 hD.length c4)/\wx.cell? ⟨g,4,none⟩=some (.slice B4 hB.length d4)/\wx.cell? ⟨g,5,none⟩=some (.slice C4 hE.length e4))):=Hd fun wx hb=>by
  have h:=Bj hb hR hL;exact⟨Ch h 0,Ch h 1,Ch h 2,Ch h 3,Ch h 4,Ch h 5⟩
 have KN:=Hd hG;have HW1:=Hd hC;have HG:=Hd hg;have hM:=Hd hH;clear hr hC hg hH hL hR hY hG;go_enter Tryz.func42,Tryz.ntmps42;go_upto_region 1 with fail
 rw[<-HW1.o,<-HG.o];refine wp_region_held_drew (S:=(fun w'=>(w'.cell? ⟨g,0,none⟩=some (.int .i64 k4)/\w'.cell? ⟨g,1,none⟩=some (.string s4)/\w'.cell? ⟨g,2,none⟩=some (.int .i64 n4)/\w'.cell? ⟨g,3,none⟩=some (.slice A4 hD.length c4)/\w'.cell? ⟨g,4,none⟩=some (.slice B4 hB.length d4)/\w'.cell? ⟨g,5,none⟩=some (.slice C4 hE.length e4)))) (by kernel_rfl) (HU.o _ (Below.refl _ _).drew) (fun hA=>?_);refine Ab.s [0,1] ?_
 iterate 2 (refine Ab.k (so rfl) hA ?_;try simp only[Act.put,Bd,Be,Bf])
 refine Ab.d ?_;refine wpAnyH_ready (rs:=[2]) (by kernel_rfl) (by simp) ?_;refine AllReadyH.cons (sd (some 5) rfl) (fun Kx hK=>?_) AllReadyH.nil;go_simp;refine KN.o.mono ?_;rintro e w5 ⟨rfl,hP⟩;have hF:Z9 (Below w1.heap.size w1 w5):=Hd ((Below.refl w1.heap.size w1).drew.trans hP);clear hP KN;go_wp2_with fail;refine hK.out _ _ (HU.o _ hF.o) (fun hA=>?_);clear hK Kx;try simp only[Act.put,Bd,Be,Bf]
 refine Ab.s [3] ?_;refine Ab.k (so rfl) hA ?_;try simp only[Act.put,Bd,Be,Bf]
 refine Ab.d ?_;refine wpAnyH_ready (rs:=[4]) (by kernel_rfl) (by simp) ?_;refine AllReadyH.cons (sd (some 7) rfl) (fun Kx hK=>?_) AllReadyH.nil;go_simp;obtain⟨w6,hJ⟩:∃x,x=w5.alloc (.cells #[.int .i64 k4,.string s4,.int .i64 n4,.slice A4 hD.length c4,.slice B4 hB.length d4,.slice C4 hE.length e4,.int .i64 (Y:Int),.slice none 0 0,.bool false] 120):=⟨_,rfl⟩;obtain⟨sb,hI⟩:∃x,x=w5.heap.size:=⟨_,rfl⟩;have hQ:Below w5.heap.size w5 w6:=by rw[hJ];exact (Below.refl _ _).alloc (Nat.le_refl _) _
 have hS:w6.heap[sb]?=some (.cells #[.int .i64 k4,.string s4,.int .i64 n4,.slice A4 hD.length c4,.slice B4 hB.length d4,.slice C4 hE.length e4,.int .i64 (Y:Int),.slice none 0 0,.bool false] 120 (0,0)):=by rw[hJ,hI];exact heap_alloc_new w5 _
 have hN:Z9 (Below w1.heap.size w1 w6):=Hd (hF.o.trans (hQ.mono hF.o.size));have hU:=Hd hS;have hT:Z9 (w1.heap.size<=sb):=Hd (by rw[hI];exact hF.o.size);rw[<-hI,<-hJ];clear hJ hI hQ hS;refine hK.out _ _ (HU.o _ hN.o) (fun hA=>?_);clear hK Kx;try simp only[Act.put,Bd,Be,Bf]
 refine Ab.s [5] ?_;refine Ab.k (so rfl) hA ?_;try simp only[Act.put,Bd,Be,Bf]
 refine Ab.d ?_;refine wpAnyH_done (by kernel_rfl) ?_ _;clear hA;go_wp2_with fail;go_ret
 exact⟨sb,rfl,Nat.le_trans hM.o.size hT.o,fun Z=>⟨[.int .i64 k4,.string s4,.int .i64 n4,.slice A4 hD.length c4,.slice B4 hB.length d4,.slice C4 hE.length e4],.slice none 0 0,false,hU.o,hO.o.later hN.o,fun h=>by cases h⟩,hM.o.trans (hN.o.mono hM.o.size)⟩
theorem Sw {w:World}{N:List Z8}{A B:Option Addr}{c d:Nat}(h1:Cg w N A) (h2:Cg w N B) :
  Calls Tryz.prog 157 #[.slice A N.length c,.slice B N.length d] w fun e w'=>e=.returned (.bool true)/\Below w.heap.size w w':=by
 obtain⟨b1,o1,hA,hl,ha⟩:=h1;obtain⟨b2,o2,hB,-,hb⟩:=h2;have HA:=Hd hA;have HB:=Hd hB;have HL:=Hd hl;have hJ:Z9 (∀wx,Below w.heap.size w wx->∀i (hi:i<N.length),wx.cell? ⟨b1,o1+i,none⟩=some (.string N[i])/\wx.cell? ⟨b2,o2+i,none⟩=some (.string N[i])):=Hd fun wx hx i hi=>⟨Aa hx (ha i hi),Aa hx (hb i hi)⟩;have ne0:((N.length:Int) != (N.length:Int))=false:=by simp
 clear hA hB hl ha hb;go_enter Tryz.func157,Tryz.ntmps157;go_wp2_with fail
 go_loopw [13] (fun v wr=>∃i:Nat,i<=N.length/\v=.int .i64 i/\Below w.heap.size w wr) (fun v _=>N.length - (intOf v).toNat)
 case atStart=>exact⟨0,Nat.zero_le _,rfl,Below.refl _ _⟩
 case round=>
  obtain⟨i,hi,rfl,hD⟩:=hrel;have hl:=HL.o;have hK:=Hd hD;by_cases hE:i<N.length
  ·have t1:decide ((i:Int)<(N.length:Int))=true:=by simp;omega
   have hI:wrap64 ((i:Int)+1)=((i+1:Nat):Int):=Ba (by omega);have hG:=Hd (Bg hE);have hL:Z9 (i+1<=N.length):=Hd hE;have hA:=HA.o (by omega);have hB:=HB.o (by omega);subst hA;subst hB;have hH:Z9 (∀wx,Below w.heap.size w wx->_):=Hd fun wx hx=>hJ.o wx hx i hE;generalize (N[i]'hE)=y at hH;have te:(y.toList == y.toList)=true:=by simp
   have tn:(y.toList != y.toList)=false:=by simp
   have i1:(0:Int)<=(i:Int):=by omega
   have i2:(i:Int)<(N.length:Int):=by omega
   have hF:Z9 (Below w.heap.size w wr.drew):=Hd hD.drew;clear hi hD hl;go_upto_region 6 with fail
   refine wp_region_held_drew (S:=(fun w'=>(w'.cell? ⟨b1,o1+i,none⟩=some (.string y)/\w'.cell? ⟨b2,o2+i,none⟩=some (.string y)))) (by kernel_rfl) (hH.o _ hF.o) (fun hC=>?_);refine Ab.s [0,1,2,3,4,5,6,7,8] ?_
   iterate 9 (refine Ab.k (so rfl) hC ?_;try simp only[Act.put,Bd,Be,Bf])
   refine Ab.d ?_;refine wpAnyH_done (by kernel_rfl) ?_ _;clear hC;go_wp2_with fail;refine⟨⟨i+1,hL.o,by first|rfl|rw[hI],hF.o⟩,?_⟩;first|exact hG.o|(rw[hI];exact hG.o)
  ·have t1:decide ((i:Int)<(N.length:Int))=false:=by simp;omega
   clear hi hD hl;go_wp2_with fail;go_ret
   exact⟨rfl,hK.o⟩
