import Derived.Test.YtlpfpehegddcfaaGreatDoorMx10
import Derived.Test.YtlpfpehegddcfaaGreatDoorMx11
namespace Go.Proofs.YtlpfpehegddcfaaGreatDoor
set_option maxRecDepth 100000
set_option maxHeartbeats 64000000
open Go.RowKit
def E4 (l:List Ty):List Ty:=(Bz l).filter fun t=>!(t.k == 1)
theorem W5 {l:List Ty}{i:Nat}(h:i<l.length):E4 (l.take (i+1))=E4 (l.take i)++(Ds l[i]).filter fun t=>!(t.k == 1):=by
 unfold E4;rw[Jb h,List.filter_append]
theorem Hb {K:Nat->Prop}{w0 w2 w5:World}{v v5:Value}{os:List Ty}{t:Ty}{cs vs:List Value}(hb:Below w0.heap.size w0 w2) (ho:w2.ownsRow w0.heap.size 26 6 v os.length vs) (hr:∀i (h:i<os.length),∃cs,Aw K w0 os[i] cs/\∀j u,cs[j]?=some u->vs[i*6+j]?=some u)
  (ht:Aw K w0 t cs) (hA:w5.ownsRow w0.heap.size 26 6 v5 (os.length+1) (vs++cs)) (hg:(w2.alloc (.cells cs.toArray 26)).grownBy w5 v.ownBlock) :
  Cs K w0 w5 v5 (os++[t])/\Below w0.heap.size w0 w5:=by
 have hB:w2.heap.size<=(w2.alloc (.cells cs.toArray 26)).heap.size:=by simp
 exact⟨Cs.snoc (ho.1) hr ht hA,(hb.alloc hb.size _).grown hg (Nat.le_trans hb.size hB) fun k hk=>(ho.lt k hk).1⟩
def T9 (l:List Ty):Prop:=∀(K:Nat->Prop) (w0 w:World) (A:Option Addr) (c:Nat) (v:Value) (os:List Ty),Bk K w0 l A c->Below w0.heap.size w0 w->Cs K w0 w v os->os.length+(Bz l).length<=1099511627776 ->
 Calls Tryz.prog 57 #[.slice A l.length c,v] w fun e w'=>∃v',e=.returned v'/\Cs K w0 w' v' (os++E4 l)/\Below w0.heap.size w0 w'
theorem R3 (l:List Ty):(E4 l).length<=(Bz l).length:=List.length_filter_le _ _
theorem Mk (l:List Ty) (hp:∀p∈l,T9 p.ps):T9 l:=by
 intro K w0 w A c v os hL hb hO kF;have kT:=hL.short;have HL:=Hd hL;have HP:=Hd hp;have kK:=Hd kF;have hX:Z9 (Cs K w0 w v os/\Below w0.heap.size w0 w):=Hd ⟨hO,hb⟩;obtain⟨i0,kO,kP,kQ,kR⟩:=Eg Ht;obtain⟨kU,hF,-⟩:=hO;obtain⟨A0,c0,rfl,-⟩:=Gx hF;obtain⟨n0,kA⟩:∃n0,n0=os.length:=⟨_,rfl⟩;rw[<-kA]at hX hF ⊢;have kS:=Hd kA;clear hL hp kF hb hF kA;go_enter Tryz.func57,Tryz.ntmps57;go_wp2_with fail
 go_loopw [1,5] (fun ov v wr=>∃(i:Nat) (acc:List Ty),i<=l.length/\v=.int .i64 i/\acc=os++E4 (l.take i)/\Cs K w0 wr ov acc/\Below w0.heap.size w0 wr) (fun _ v _=>l.length - (intOf v).toNat)
 case atStart=>exact⟨0,os,by omega,rfl,by simp[E4,Bz],hX.o.1,hX.o.2⟩
 case round=>
  obtain⟨i,acc,hi,rfl,hM,ho,hb⟩:=hrel;have hB:=Hd hM;clear hM;have HR:=Hd (And.intro ho hb);obtain⟨vs,hH,hQ⟩:=ho;obtain⟨A1,c1,rfl,-⟩:=Gx hH;by_cases hG:i<l.length
  ·have t1:decide ((i:Int)<(l.length:Int))=true:=by simp;omega
   have hI:wrap64 ((i:Int)+1)=((i+1:Nat):Int):=Ba (by omega);have HM:=Hd (Bg hG);obtain⟨b,o,hA,_,kN⟩:=HL.o.at (by omega);have kJ:=kN i hG;have hP:=HP.o _ (List.getElem_mem hG);have hR:=W5 hG;have hN:=Jb hG;have hU:=K1 l (i+1);have hZ:=R3 (l.take i);subst hA;generalize l[i]=t at kJ hP hR hN;obtain⟨k,s,n,ps,fs,ws⟩:=t;obtain⟨cs,hD,hC⟩:=kJ;obtain⟨Ap,cp,Af,cf,Av,cv,rfl,-,hT,-,-⟩:=hC.inv;have HREP:=Hd hC;have x0:wr.cell? ⟨b,o+i*6,none⟩=some (.int .i64 k):=Aa hb (hD 0 _ rfl);have x1:=Aa hb (hD 1 _ rfl);have x2:=Aa hb (hD 2 _ rfl);have x3:=Aa hb (hD 3 _ rfl);have x4:=Aa hb (hD 4 _ rfl);have x5:=Aa hb (hD 5 _ rfl);have hV:Z9 (i+1<=l.length):=Hd hG;have hY:=Hd hR;have hW:=Hd (And.intro hH hQ);have hJ:Z9 (acc.length+(Ds (.mk k s n ps fs ws)).length<=1099511627776):=Hd (by
    have h1:=kK.o;rw[hU,hN]at h1;rw[hB.o];simp only[List.length_append]at h1 ⊢;omega)
   by_cases hS:k=15
   ·subst hS;have KF:=Hd (hP K w0 wr Ap cp _ _ hT hb HR.o.1 (by have:=hJ.o;rw[C6,if_pos rfl]at this;exact this));simp only[Ty.ps]at KF;clear hP hR hN hZ hU hD hC hT hH hQ hb hi x1 x2 x4 x5;go_wp2_with fail;refine KF.o.mono ?_;rintro e w2 ⟨v2,rfl,kI,kE⟩;have kC:=Hd (And.intro kI kE);clear kI kE KF;go_wp2_with fail;refine⟨⟨i+1,_,hV.o,by first|rfl|rw[hI],?p1,kC.o.1,kC.o.2⟩,?p3⟩
    case p1=>rw[hY.o,hB.o,C6,if_pos rfl,List.append_assoc];rfl
    case p3=>first|exact HM.o|(rw[hI];exact HM.o)
   ·have t15:(k == 15)=false:=(by simpa using hS);by_cases h1:k=1
    ·subst h1;clear hP hR hN hZ hU hD hC hT hH hQ hb hi;go_wp2_with fail;refine⟨⟨i+1,acc,hV.o,by first|rfl|rw[hI],?p1,HR.o.1,HR.o.2⟩,?p3⟩
     case p1=>
      rw[hY.o,hB.o,C6,if_neg (by decide)];have e:([Ty.mk 1 s n ps fs ws].filter fun t=>!(t.k == 1))=[]:=rfl;rw[e,List.append_nil]
     case p3=>first|exact HM.o|(rw[hI];exact HM.o)
    ·have tn1:(k != 1)=true:=(by simpa using h1);have kH:(k == 1)=false:=(by simpa using h1);have kM:=Hd kH;have kL:=Hd (Dz wr [.int .i64 k,.string s,.int .i64 n,.slice Ap ps.length cp,.slice Af fs.length cf,.slice Av ws.length cv] 26);have kB:Z9 (acc.length+1<=1099511627776):=Hd (by have:=hJ.o;rw[C6,if_neg hS]at this;simpa using this);have HB:=Hd hb;clear hP hR hN hZ hU hD hC hT hH hQ hi hb kH;go_wp2_with (at_builtin;refine wpList_plain rfl fun K hK=>?_;go_loud (refine Cb _ _ 22 rfl w0.heap.size 26 i0 (.agg #[.int .i64 0,.string ⟨#[]⟩,.int .i64 0,.slice none 0 0,.slice none 0 0,.slice none 0 0]) 6 104 Tryz.underlying22 kO kP kQ kR rfl (by decide) _ _ _ rfl (hW.o.1.alloc _) ⟨wr.heap.size,0,none⟩ 1 1 [.int .i64 k,.string s,.int .i64 n,.slice Ap ps.length cp,.slice Af fs.length cf,.slice Av ws.length cv] rfl rfl ?a0 ?a1 ?a2 ?a3 ?a4 ?_))
     case a0=>exact kL.o
     case a1=>
      intro u hu;simp only[List.mem_cons,List.not_mem_nil,or_false]at hu;rcases hu with rfl|rfl|rfl|rfl|rfl|rfl <;> rfl
     case a2=>have:=kB.o;unfold maxLen;omega
     case a3=>have:=kB.o;omega
     case a4=>have:=HB.o.size;simp only[World.size_alloc];omega
     intro v5 w5 hE kG _ _;refine hK _ _ ?_;clear hK K;have kD:=Hd (Hb HB.o hW.o.1 hW.o.2 HREP.o hE kG);clear hE kG x0 x1 x2 x3 x4 x5;go_wp2_with fail;refine⟨⟨i+1,_,hV.o,by first|rfl|rw[hI],?p1,kD.o.1,kD.o.2⟩,?p3⟩
     case p1=>
      rw[hY.o,hB.o,C6,if_neg hS,List.append_assoc];have e:([Ty.mk k s n ps fs ws].filter fun t=>!(t.k == 1))=[Ty.mk k s n ps fs ws]:=(by simp[Ty.k,kM.o]);rw[e]
     case p3=>first|exact HM.o|(rw[hI];exact HM.o)
  ·have t1:decide ((i:Int)<(l.length:Int))=false:=by simp;omega
   have HE:Z9 (l.take i=l):=Hd (List.take_of_length_le (by omega));clear hi hH hQ hb;go_wp2_with fail;go_ret
   have h1:=HR.o;have h2:=hB.o;rw[HE.o]at h2;rw[<-h2];exact⟨.slice A1 acc.length c1,rfl,h1.1,h1.2⟩
theorem We (l:List Ty):T9 l:=Mk l fun p _=>Ty.ind (C:=fun t=>T9 t.ps) (fun _ _ _ ps _ _ hp _ _=>Mk ps hp) p
def Lf (vs:Bt) (i:Nat):Z8->Option Unit:=fun s=>if ((vs.take i).any fun x=>decide (x.1=s))=true then some () else none
theorem Tr {vs:Bt}{i:Nat}(h:i<vs.length):Hx (Lf vs i) vs[i].1 ()=Lf vs (i+1):=by
 funext s;unfold Hx Lf;rw[List.take_succ_eq_append_getElem h,List.any_append];by_cases e:vs[i].1=s
 ·simp[e]
 ·have e2:decide (vs[i].1=s)=false:=decide_eq_false e;rw[if_neg e];simp only[List.any_cons,List.any_nil,e2,Bool.or_false]
theorem Ts {vs:Bt}{i:Nat}(s:Z8):(Lf vs i s).isSome=(vs.take i).any fun x=>decide (x.1=s):=by
 unfold Lf
 split
 ·rename_i h;rw[h];rfl
 ·rename_i h;rw[Bool.not_eq_true]at h;rw[h];rfl
theorem Jv {p:Nat->Bool}{i:Nat}(h:∀j,j<i->p j=true) (h2:p i=true):∀j,j<i+1->p j=true:=fun j hj=>by
 rcases Nat.lt_or_ge j i with h1|h1
 ·exact h j h1
 ·rw[show j=i from by omega];exact h2
structure VaR (w wr:World) (vs:Bt) (fv:Ty->Bool) (i:Nat):Prop where
 le:i<=vs.length
 ok:∀j,j<i->okV (Dj vs fv) j=true
 map:Cy Hf wr w.heap.size i (Lf vs i)
 below:Below w.heap.size w wr
theorem Ml {K:Nat->Prop}{w:World}{vs:Bt}{A:Option Addr}{c:Nat}{fv:Ty->Bool}(hV:Da K w vs A c) (hf:∀v∈vs,∀b∈v.2,F5 b (fv b)) :
  Calls Tryz.prog 135 #[.slice A vs.length c] w fun e w'=>e=.returned (.bool (Eo (Dj vs fv)))/\Below w.heap.size w w':=by
 have HV:=Hd hV;have HF:=Hd hf;have hlv:vs.length<=1000000000000000:=by obtain⟨_,_,hr,_⟩:=hV;exact hr.big
 have kW:Z9 (VaR w (w.alloc (.map #[] 0)) vs fv 0):=Hd ⟨Nat.zero_le _,fun j hj=>absurd hj (by omega),by
  have h:=Cy.new Hf w;have e:Lf vs 0=fun _=>none:=by funext s;simp[Lf]
  rw[e];exact h,(Below.refl _ _).alloc (Nat.le_refl _) _⟩
 have kZ:=@run_makeMap Tryz.prog;clear hV hf;go_enter Tryz.func135,Tryz.ntmps135;go_wp2_with fail;clear kZ
 go_loopw [11] (fun v wr=>∃i:Nat,v=.int .i64 (i:Int)/\VaR w wr vs fv i) (fun v _=>vs.length - (intOf v).toNat)
 case atStart=>exact⟨0,rfl,kW.o⟩
 case round=>
  obtain⟨i,rfl,hr⟩:=hrel;have HR:=Hd hr;have hP:=hr.le;by_cases hJ:i<vs.length
  ·have t1:decide ((i:Int)<(vs.length:Int))=true:=by simp;omega
   have hY:wrap64 ((i:Int)+1)=((i+1:Nat):Int):=Ba (by omega);have HM:=Hd (Bg hJ);obtain⟨b,o,hA,_,kO⟩:=HV.o.at (by omega);subst hA;obtain⟨B,d,kF,kG,kT,hH⟩:=kO i hJ;have hD:=ε (fv:=fv) hJ;have hK:=Tr hJ;have hG:∀b∈vs[i].2,F5 b (fv b):=HF.o _ (List.getElem_mem hJ);have kH:=Ts (vs:=vs) (i:=i) vs[i].1;generalize aA:vs[i].1=nm at kF hD hK kT kH;generalize hl:vs[i].2=l at kG hH hD hG;have kX:=Aa (w:=w) (w':=wr) hr.below kF;have kY:=Aa (w:=w) (w':=wr) hr.below kG;have kP:Below wr.heap.size wr (wr.alloc (.cells #[.string nm,.slice B l.length d] 62)):=(Below.refl _ _).alloc (Nat.le_refl _) _;have kS:nm.size<=maxLen:=by unfold maxLen;omega
   have lk:(Instr.lookup 186 (.map (some w.heap.size)) (.string nm) true).run Tryz.prog (wr.alloc (.cells #[.string nm,.slice B l.length d] 62))=.ok (.tuple #[.agg #[],.bool ((vs.take i).any fun x=>decide (x.1=nm))]) (wr.alloc (.cells #[.string nm,.slice B l.length d] 62)):=by
    rw[<-kH];exact (hr.map.later kP).look2 nm kS
   generalize hT:((vs.take i).any fun x=>decide (x.1=nm))=seen at lk hD;clear kO kF kG aA hl kH hT
   cases seen with
   | true=>
    have hL:Z9 (Eo (Dj vs fv)=false):=Hd (F9 (by rw[Fy];exact hJ) (by rw[hD];simp));have hQ:=Hd hr.below;clear hr hP hD hK;go_wp2_with fail;go_ret
    exact⟨by rw[hL.o];rfl,(hQ.o.alloc hQ.o.size _).alloc (by have:=hQ.o.size;simp;omega) _⟩
   | false=>
    have aB:Z9 (wr.heap.size<=((wr.alloc (.cells #[.string nm,.slice B l.length d] 62)).alloc (.cells #[] 193)).heap.size):=Hd (by simp;omega);have hI:Below wr.heap.size wr ((wr.alloc (.cells #[.string nm,.slice B l.length d] 62)).alloc (.cells #[] 193)):=kP.alloc (by simp) _;have hF:Z9 (w.heap.size<=((wr.alloc (.cells #[.string nm,.slice B l.length d] 62)).alloc (.cells #[] 193)).heap.size):=Hd (by have:=hr.below.size;have:=hI.size;omega);have hX:=Hd (hr.below.trans (hI.mono hr.below.size));have kM:=Hd (hr.map.later hI);have kE:((wr.alloc (.cells #[.string nm,.slice B l.length d] 62)).alloc (.cells #[] 193)).heap[wr.heap.size]?=some (.cells #[.string nm,.slice B l.length d] 62 (0,0)):=by
     rw[((Below.refl (wr.alloc (.cells #[.string nm,.slice B l.length d] 62)).heap.size _).alloc (Nat.le_refl _) (.cells #[] 193)).block _ (by simp)];exact heap_alloc_new wr _
    have HX0:Z9 (((wr.alloc (.cells #[.string nm,.slice B l.length d] 62)).alloc (.cells #[] 193)).cell? ⟨wr.heap.size,0,none⟩=some (.string nm)):=Hd (cell_of_row _ _ 0 _ _ _ kE);have kB:Z9 (((wr.alloc (.cells #[.string nm,.slice B l.length d] 62)).alloc (.cells #[] 193)).cell? ⟨wr.heap.size,1,none⟩=some (.slice B l.length d)):=Hd (cell_of_row _ _ 1 _ _ _ kE);have KN:=Hd (Fb nm ((wr.alloc (.cells #[.string nm,.slice B l.length d] 62)).alloc (.cells #[] 193)) kT);have kK:Z9 (w.heap.size<wr.heap.size):=Hd hr.map.lt;have kL:Z9 (i<maxLen):=Hd (by unfold maxLen;omega);have kN:=Hd kS;have hZ:Z9 (i+1<=vs.length):=Hd hJ;clear hI kE
    cases hq:B6 nm with
    | false=>
     rw[hq]at KN;have hL:Z9 (Eo (Dj vs fv)=false):=Hd (F9 (by rw[Fy];exact hJ) (by rw[hD];simp[hq]));clear hD hK hr hP;go_wp2_with fail;refine KN.o.mono ?_;rintro e w3 ⟨rfl,hB⟩;have hE:=Hd (hX.o.trans (hB.mono hF.o));clear hB;go_wp2_with fail;go_ret
     exact⟨by rw[hL.o];rfl,hE.o⟩
    | true=>
     rw[hq]at KN
     match l,hH,hG with
     | [],hH,hG=>
      clear hH hG;simp only[List.length_nil]at *;clear hr hP;go_wp2_with fail;refine KN.o.mono ?_;rintro e w3 ⟨rfl,hB⟩;have hE:=Hd (hX.o.trans (hB.mono hF.o));have y0:=Aa hB HX0.o;have y1:=Aa hB kB.o;obtain⟨w4,hU,hO,hN⟩:=(kM.o.later hB).putL kL.o nm kN.o ();have kI:(Instr.mapUpdate 186 (.map (some w.heap.size)) (.string nm) (.agg #[])).run Tryz.prog w3=.ok () w4:=hU;have hC:w4.heap[wr.heap.size]?=w3.heap[wr.heap.size]?:=hN.block _ (World.block_lt_of_cell? _ _ y0) (by have:=kK.o;simp only[ne_eq,Option.some.injEq];omega);have z0:=(World.cell?_of_block (a:=⟨wr.heap.size,0,none⟩) hC).trans y0;have z1:=(World.cell?_of_block (a:=⟨wr.heap.size,1,none⟩) hC).trans y1;have hR:Below w.heap.size w w4:=hE.o.grown hN hE.o.size (fun k hk=>by simp only[Option.some.injEq]at hk;omega);rw[hK]at hO;have kA:=Hd hO;have hW:=Hd hR;clear hB hU hO hN hC hR hK;have kV:Z9 (okV (Dj vs fv) i=true):=Hd (by rw[hD];simp[hq]);clear hD;go_wp2_with fail;refine⟨⟨i+1,by first|rfl|rw[hY],hZ.o,Jv HR.o.ok kV.o,kA.o,hW.o⟩,?_⟩;first|exact HM.o|(rw[hY];exact HM.o)
     | [x],hH,hG=>
      obtain⟨bb,bo,rfl,-,hS⟩:=hH.at (by simp);have kQ:De K w x bb bo:=(by have h:=hS 0 (by simp);simpa using h);have kR:=hG x (List.mem_singleton.2 rfl);clear hH hG hS;simp only[List.length_cons,List.length_nil,Nat.zero_add]at *;clear hr hP;go_wp2_with fail;refine KN.o.mono ?_;rintro e w3 ⟨rfl,hB⟩;have hE:=Hd (hX.o.trans (hB.mono hF.o));have y0:=Aa hB HX0.o;have y1:=Aa hB kB.o;obtain⟨w4,hU,hO,hN⟩:=(kM.o.later hB).putL kL.o nm kN.o ();have kI:(Instr.mapUpdate 186 (.map (some w.heap.size)) (.string nm) (.agg #[])).run Tryz.prog w3=.ok () w4:=hU;have hC:w4.heap[wr.heap.size]?=w3.heap[wr.heap.size]?:=hN.block _ (World.block_lt_of_cell? _ _ y0) (by have:=kK.o;simp only[ne_eq,Option.some.injEq];omega);have z0:=(World.cell?_of_block (a:=⟨wr.heap.size,0,none⟩) hC).trans y0;have z1:=(World.cell?_of_block (a:=⟨wr.heap.size,1,none⟩) hC).trans y1;have hR:Below w.heap.size w w4:=hE.o.grown hN hE.o.size (fun k hk=>by simp only[Option.some.injEq]at hk;omega);rw[hK]at hO;have kA:=Hd hO;have hW:=Hd hR;clear hB hU hO hN hC hR hK;have KF:=Hd (kR K w4 bb bo (kQ.later hW.o));have hM:Z9 (okV (Dj vs fv) i=fv x):=Hd (by rw[hD];simp[hq]);clear hD kQ kR;generalize fv x=r at KF hM;go_wp2_with fail;refine KF.o.mono ?_;rintro e w5 ⟨rfl,kD⟩;have kJ:=Hd (Cx hW.o kD);have kU:=Hd (kA.o.later kD);clear kD
      cases r with
      | false=>
       have hL:Z9 (Eo (Dj vs fv)=false):=Hd (F9 (by rw[Fy];exact hZ.o) hM.o);go_wp2_with fail;go_ret
       exact⟨by rw[hL.o];rfl,kJ.o⟩
      | true=>
       go_wp2_with fail;refine⟨⟨i+1,by first|rfl|rw[hY],hZ.o,Jv HR.o.ok hM.o,kU.o,kJ.o⟩,?_⟩;first|exact HM.o|(rw[hY];exact HM.o)
     | x :: y :: l,hH,hG=>
      clear hH hG;have e2:(x :: y :: l).length=l.length+2:=rfl;have t3:1<l.length+2:=(by omega);have t3b:decide ((1:Int)<((l.length+2:Nat):Int))=true:=(by simp;omega);simp only[List.length_cons]at *;have hL:Z9 (Eo (Dj vs fv)=false):=Hd (F9 (by rw[Fy];exact hJ) (by rw[hD];simp[hq]));clear hD hK hr hP;go_wp2_with fail;refine KN.o.mono ?_;rintro e w3 ⟨rfl,hB⟩;have hE:=Hd (hX.o.trans (hB.mono hF.o));have y1:=Aa hB kB.o;clear hB;go_wp2_with fail;go_ret
      exact⟨by rw[hL.o];rfl,hE.o⟩
  ·have t1:decide ((i:Int)<(vs.length:Int))=false:=by simp;omega
   have kC:Z9 (Eo (Dj vs fv)=true):=Hd (Et.2 fun j hj=>hr.ok j (by rw[Fy]at hj;omega));have hQ:=Hd hr.below;clear hr hP HR;go_wp2_with fail;go_ret
   exact⟨by rw[kC.o];rfl,hQ.o⟩
theorem S5 {K:Nat->Prop}{w:World}{t:Ty}{cs:List Value}{r:Bool}(h:Aw K w t cs) (hf:F5 t r) :
  Calls Tryz.prog 35 #[.agg cs.toArray] w fun e w'=>e=.returned (.bool (decide (Am t<=4096) && r))/\Below w.heap.size w w':=by
 have hA:Below w.heap.size w (w.alloc (.cells cs.toArray 26)):=(Below.refl _ _).alloc (Nat.le_refl _) _;have KN:=Hd (Kb (h.later hA));have KF:=Hd fun wx hx=>hf K wx w.heap.size 0 ((De.box 26 h).later hx);have hB:=Hd hA;have HC:Z9 (decide (((Cj (Am t):Nat):Int)<=4096)=decide (Am t<=4096)):=Hd (by unfold Cj;congr 1;rw[eq_iff_iff];omega);obtain⟨k,s,n,ps,fs,vs⟩:=t;obtain⟨A,c,A',c',A'',c'',rfl,_⟩:=h.inv;generalize Cj (Am (.mk k s n ps fs vs))=q at KN HC;generalize decide (Am (.mk k s n ps fs vs)<=4096)=d at HC ⊢;simp only[Az]at KN KF hB ⊢;clear h hf hA
 cases d with
 | false=>
  have hq:¬ ((q:Int)<=4096):=by have h:=HC.o;simpa using h
  have hG:¬ (q<=4096):=by omega
  go_enter Tryz.func35,Tryz.ntmps35;go_wp2_with fail;refine KN.o.mono ?_;rintro e w1 ⟨rfl,hA⟩;have hC:=Hd (Cx hB.o hA);clear hA KN;go_wp2_with fail;go_ret
  exact⟨rfl,hC.o⟩
 | true=>
  have hq:((q:Int)<=4096):=by have h:=HC.o;simpa using h
  have hG:(q<=4096):=by omega
  go_enter Tryz.func35,Tryz.ntmps35;go_wp2_with fail;refine KN.o.mono ?_;rintro e w1 ⟨rfl,hA⟩;have hC:=Hd (Cx hB.o hA);have hF:=Hd (KF.o _ hA);clear hA KN KF;go_wp2_with fail;refine hF.o.mono ?_;rintro e w2 ⟨rfl,hD⟩;have hE:=Hd (Cx hC.o hD);clear hD;go_wp2_with fail;go_ret
  exact⟨rfl,hE.o⟩
theorem Jcj (t:Z8) (n:Int) (ps:List Ty) (fs:Bx) (vs:Bt):Fq (.mk 15 t n ps fs vs) (H5 ps):=by
 intro K w b o h;obtain⟨A,c,_,_,_,_,⟨x0,-,-,x3,-,-⟩,-,hP,-⟩:=h.six;have KU:=Hd (Jb5 hP);clear h hP;generalize H5 ps=r at KU ⊢;go_enter Tryz.func96,Tryz.ntmps96;go_wp2_with fail;refine KU.o.mono ?_;rintro e w2 ⟨rfl,hA⟩;have hB:=Hd hA;clear hA;go_wp2_with fail;go_ret
 exact⟨rfl,hB.o⟩
open Go.Shelf Go.RowKit Go.Lib Go.Sort
def TyC (K:Nat->Prop) (w0:World):Type:={p:Ty×List Value // Aw K w0 p.1 p.2}
instance (K:Nat->Prop) (w0:World):Inhabited (TyC K w0):=⟨⟨(Hi 1,_),Ki K w0⟩⟩
def Lk {K:Nat->Prop} {w0:World} (x:TyC K w0):List Value:=x.1.2
def cfC {K:Nat->Prop} {w0:World} (x y:TyC K w0):Int:=B5 x.1.1 y.1.1
theorem Mi {K:Nat->Prop}{w0:World}(x:TyC K w0):(Lk x).length=6:=x.2.six
theorem Yg {K:Nat->Prop}{w0:World}(x:TyC K w0):∀v∈Lk x,v.oneCell'=true:=by
 obtain⟨⟨⟨k,s,n,ps,fs,vs⟩,cs⟩,h⟩:=x;obtain⟨A,c,A',c',A'',c'',rfl,_⟩:=h.inv;intro v hv;simp only[Lk,Az,List.mem_cons,List.not_mem_nil,or_false]at hv;rcases hv with rfl|rfl|rfl|rfl|rfl|rfl <;> rfl
theorem Z7 {K:Nat->Prop}{w0:World}{x y:TyC K w0}:ltOf cfC x y=true↔B5 x.1.1 y.1.1<0:=by
 unfold ltOf;exact decide_eq_true_iff
theorem R0 {K:Nat->Prop}{w0:World}{x y:TyC K w0}:ltOf cfC x y=false↔0<=B5 x.1.1 y.1.1:=by
 unfold ltOf;exact decide_eq_false_iff_not.trans Int.not_lt
theorem lt_trans {a b c:Ty}(h1:B5 a b<0) (h2:B5 b c<0):B5 a c<0:=by
 rcases Gb a b with e|e|e
 ·rcases Gb b c with e'|e'|e'
  ·rw[Fx e e'];decide
  ·omega
  ·omega
 ·omega
 ·omega
theorem Jev (K:Nat->Prop) (w0:World):SWO (ltOf (cfC (K:=K) (w0:=w0))) where
 irrefl x:=R0.2 (by rw[C5.2 rfl];decide)
 trans x y z h1 h2:=Z7.2 (lt_trans (Z7.1 h1) (Z7.1 h2))
 ntrans x y z h1 h2:=R0.2 (Jcb (R0.1 h1) (R0.1 h2))
theorem Jej {K:Nat->Prop}{w0 w:World}{g size:Nat}(hb:Below w0.heap.size w0 w) (hg:w0.heap.size<=g):CmpLays Tryz.prog 101 #[] (Lk (K:=K) (w0:=w0)) 6 cfC g 0 size w:=by
 intro m os dk _ x y;have hk:∀b o v,K b->w0.cell? ⟨b,o,none⟩=some v->(sortWorldK (Lk (K:=K) (w0:=w0)) 6 w g 0 m dk os).cell? ⟨b,o,none⟩=some v:=fun b o v _ hc=>by
  have hA:b<w0.heap.size:=World.block_lt_of_cell? _ _ hc;rw[cell?_sortWorldK_other _ _ _ _ _ _ _ _ ⟨b,o,none⟩ (by show b≠g;omega) (Nat.lt_of_lt_of_le hA hb.size)];exact Aa hb hc
 exact Vi (Aw.keep (fun _ h=>h) hk _ _ x.2) (Aw.keep (fun _ h=>h) hk _ _ y.2)
theorem J9 {α:Type} [Inhabited α] {enc:α->List Value}{w:World}{g m:Nat}{dk:Array α}{os:Array Obj}:(sortWorldK enc 6 w g 0 m dk os).heap=(w.heap.modify g (onCells (putCells id 0 (flatK enc 6 dk))))++os:=rfl
theorem X0 {α:Type} [Inhabited α] {enc:α->List Value}{w:World}{g m:Nat}{dk:Array α}{os:Array Obj}{cur:Array Value}{T:TypeId}(hb:w.heap[g]?=some (.cells cur T (0,0))):∃cur',(sortWorldK enc 6 w g 0 m dk os).heap[g]?=some (.cells cur' T (0,0))/\cur'.size=cur.size:=by
 have hA:=(Array.getElem?_eq_some_iff.1 hb).1;refine⟨putCells id 0 (flatK enc 6 dk) cur,?_,by simp[putCells]⟩;rw[J9,Array.getElem?_append_left (by simpa using hA),Array.getElem?_modify,if_pos rfl,hb];rfl
theorem Tu {α:Type} [Inhabited α] {enc:α->List Value}{w0 w:World}{g m:Nat}{dk:Array α}{os:Array Obj}(hb:RowKit.Below w0.heap.size w0 w) (hg:w0.heap.size<=g):RowKit.Below w0.heap.size w0 (sortWorldK enc 6 w g 0 m dk os):=by
 have h1:=hb.size;refine⟨hb.os,hb.tape,hb.output,?_,fun k hk=>?_⟩
 ·rw[J9];simp;omega
 ·rw[J9,Array.getElem?_append_left (by simp;omega),Array.getElem?_modify,if_neg (by omega)];exact hb.block k hk
theorem Jca (w:World):Calls Tryz.prog 178 #[.int .u64 0] w fun e w'=>e=.returned (.int .i64 0)/\w'=w:=by
 have e0:wrap64 (Lib.len8 0)=0:=by kernel_rfl
 have e1:wrap64 0=0:=by kernel_rfl
 go_enter Tryz.func178,Tryz.ntmps178;go_wp2_with fail;go_ret
 exact⟨rfl,rfl⟩
theorem Jdi (w:World):Calls Tryz.prog 140 #[.int .u64 0] w fun e w'=>e=.returned (.int .i64 0)/\w'=w:=by
 go_enter Tryz.func140,Tryz.ntmps140;go_wp2_with fail;refine (Jca _).mono ?_;rintro e w' ⟨rfl,hw⟩;obtain rfl:=hw.symm;go_wp2_with fail;go_ret
 exact⟨rfl,rfl⟩
theorem Jb6 (w:World) (A:Option Addr) (c:Nat):Calls Tryz.prog 191 #[.slice A 0 c,.int .i64 0,.int .i64 0] w fun e w'=>e=.returned (.tuple #[])/\w'=w:=by
 go_enter Tryz.func191,Tryz.ntmps191;go_wp2_with fail
 go_loopw [6] (fun v wr=>v=.int .i64 1/\wr=w) (fun _ _=>0)
 case atStart=>exact⟨rfl,rfl⟩
 case round=>
  obtain⟨rfl,rfl⟩:=hrel;go_wp2_with fail
  go_end0
  exact⟨rfl,rfl⟩
theorem Jeb (w:World) (A:Option Addr) (c:Nat):Calls Tryz.prog 168 #[.slice A 0 c,.int .i64 0,.int .i64 0,.int .i64 0] w fun e w'=>e=.returned (.tuple #[])/\w'=w:=by
 go_enter Tryz.func168,Tryz.ntmps168;go_wp2_with fail
 go_loopw [1,2,3,8,9] (fun a b l x y wr=>a=.int .i64 0/\b=.int .i64 0/\l=.int .i64 0/\x=.bool true/\y=.bool true/\wr=w) (fun _ _ _ _ _ _=>0)
 case atStart=>exact⟨rfl,rfl,rfl,rfl,rfl,rfl⟩
 case round=>
  obtain⟨rfl,rfl,rfl,rfl,rfl,rfl⟩:=hrel;go_wp2_with fail;refine (Jb6 _ _ _).mono ?_;rintro e w' ⟨rfl,hw⟩;obtain rfl:=hw.symm;go_wp2_with fail;exact bodyPost_ret (v:=.tuple #[]) (by simp[results,Tryz.results168,go_sem]) rfl ⟨rfl,rfl⟩
theorem Jdw (w:World) (A:Option Addr) (c:Nat):Calls Tryz.prog 133 #[.slice A 0 c] w fun e w'=>e=.returned (.tuple #[])/\w'=w:=by
 go_enter Tryz.func133,Tryz.ntmps133;go_wp2_with fail;refine (Jdi _).mono ?_;rintro e w' ⟨rfl,hw⟩;obtain rfl:=hw.symm;go_wp2_with fail;refine (Jeb _ _ _).mono ?_;rintro e w' ⟨rfl,hw⟩;obtain rfl:=hw.symm;go_wp2_with fail
 go_end0
 exact⟨rfl,rfl⟩
theorem V1 (w:World) (A:Option Addr) (c:Nat):Calls Tryz.prog 134 #[.slice A 0 c] w fun e w'=>e=.returned (.slice A 0 c)/\w'=w:=by
 go_enter Tryz.func134,Tryz.ntmps134;go_wp2_with fail;go_ret
 exact⟨rfl,rfl⟩
open Go.Shelf Go.RowKit Go.Lib Go.Sort
theorem Jb4:∀w,(isAgg (Hw.t 24)).run Tryz.prog w=.ok true w:=fun _=>by kernel_rfl
theorem Jai:∀w,(Go.sizeOf (Hw.t 24)).run Tryz.prog w=.ok 6 w:=fun _=>by kernel_rfl
theorem Jbm:∀args w,(callFunc 101 args).run Tryz.prog w=.ok (.enter 101 args) w:=enters_of Tryz.func101 (by kernel_rfl) rfl
theorem Jal:Jc8:=by
 intro K w0 w g c l h hb hg hR
 classical
 have hF:∀i:Fin l.length,∃x:TyC K w0,x.1.1=l[i]/\∀(j:Nat) (u:Value),(Lk x)[j]?=some u->w.cell? ⟨g,i.1*6+j,none⟩=some u:=fun i=>by
  obtain⟨cs,h1,h2⟩:=h.reps i.1 l[i] (List.getElem?_eq_getElem i.2);exact⟨⟨(l[i],cs),h1⟩,rfl,h2⟩
 obtain⟨f,hf⟩:∃f:Fin l.length->TyC K w0,∀i,(f i).1.1=l[i]/\∀(j:Nat) (u:Value),(Lk (f i))[j]?=some u->w.cell? ⟨g,i.1*6+j,none⟩=some u:=⟨fun i=>(hF i).choose,fun i=>(hF i).choose_spec⟩;obtain⟨d,hd⟩:∃d:Array (TyC K w0),d=Array.ofFn f:=⟨_,rfl⟩;have hA:d.size=l.length:=by rw[hd];simp
 have hE:∀i (hi:i<l.length),d[i]! = f ⟨i,hi⟩:=fun i hi=>by rw[getElem!_pos d i (by omega)];simp[hd]
 have hL:d.toList.map (fun x=>x.1.1)=l:=by
  refine List.ext_getElem (by simpa using hA) fun i h1 h2=>?_;rw[List.getElem_map,Array.getElem_toList];have:=hE i h2;rw[getElem!_pos d i (by omega)]at this;rw[this,(hf ⟨i,h2⟩).1];rfl
 have hH:HoldsK Lk 6 w g 0 d:=by
  intro t ht;have ht':t<d.size*6:=by simpa using ht
  have hi:t / 6<l.length:=by omega
  have hj:t % 6<6:=by omega
  have hP:=Mi (f ⟨t / 6,hi⟩);refine⟨?_,(h.there (j:=0+t) (by have:=h.le;omega)).2⟩;rw[get_flatK _ _ _ _ ht',hE _ hi];have h3:=(hf ⟨t / 6,hi⟩).2 (t % 6) _ (List.getElem?_eq_getElem (by omega));rw[show (⟨t / 6,hi⟩:Fin l.length).1*6+t % 6=0+t from by show t / 6*6+t % 6=_;omega]at h3;rw[h3,getElem!_pos _ _ (by omega)];rfl
 have main:=AnyQ.slices_SortFunc Jaj 6 Jb4 Jai Lk Mi Yg cfC (Jev K w0) 101 #[] g 0 c d w Jbm (Jej hb hg) hH h.lt (by omega);rw[hA]at main;refine main.mono ?_;rintro e w' ⟨rfl,d',n,os,hp,hs,rfl⟩;have hD:d'.size=l.length:=hp.1.trans hA;have hC:d'.toList.Perm d.toList:=by
  have h3:=hp.2.2;have e1:(d'.extract 0 l.length).toList=d'.toList:=by rw[<-hD];simp
  have e2:(d.extract 0 l.length).toList=d.toList:=by rw[<-hA];simp
  rwa [e1,e2]at h3
 refine⟨rfl,Tu hb hg,d'.toList.map (fun x=>x.1.1),?_,?_,by simpa using hD,?_⟩
 ·refine List.pairwise_map.2 (List.pairwise_iff_getElem.2 fun i j hi hj hM=>?_);have hi':i<d'.size:=by simpa using hi
  have hj':j<d'.size:=by simpa using hj
  have h4:=R0.1 (hs i j (Nat.zero_le _) hM (by omega));rw[getElem!_pos d' i hi',getElem!_pos d' j hj',Es]at h4;simp only[Array.getElem_toList];omega
 ·intro x;rw[<-hL];exact (hC.map _).mem_iff
 ·have hH':=holdsK_sortWorldK (Lk (K:=K) (w0:=w0)) 6 w g 0 n d d' os h.lt hH (hD.trans hA.symm);obtain⟨cur,hG,hI⟩:=h.blk;obtain⟨cur',hJ,hK⟩:=X0 (enc:=Lk (K:=K) (w0:=w0)) (m:=n) (dk:=d') (os:=os) hG;refine⟨by rw[List.length_map,Array.length_toList,hD];exact h.le,h.mx,⟨cur',hJ,hK.trans hI⟩,fun i t hi=>?_⟩;obtain⟨hQ,rfl⟩:=List.getElem?_eq_some_iff.1 hi;have hB:i<d'.size:=by simpa using hQ
  refine⟨Lk d'[i],by rw[List.getElem_map,Array.getElem_toList];exact d'[i].2,fun j u hj=>?_⟩;obtain⟨hN,hO⟩:=List.getElem?_eq_some_iff.1 hj;have h6:=Mi d'[i];have h7:=(hH'.cell (i:=i) (c:=j) hB (by omega)).1;rw[Nat.zero_add,getElem!_pos d' i hB,getElem!_pos _ j hN,hO]at h7;exact h7
theorem Um {K K':Nat->Prop}{w:World}{t t':Ty}{cs cs':List Value}(h:Aw K w t cs) (h':Aw K' w t' cs') :
  Calls Tryz.prog 103 #[.agg cs.toArray,.agg cs'.toArray] w fun e w'=>e=.returned (.bool (B5 t t' == 0))/\Gw w w':=by
 have hA:Gw w (w.alloc (.cells cs.toArray 26)):=(Gw.refl w).alloc _;have hB:Gw w ((w.alloc (.cells cs.toArray 26)).alloc (.cells cs'.toArray 26)):=hA.alloc _;have a1:De K ((w.alloc (.cells cs.toArray 26)).alloc (.cells cs'.toArray 26)) t w.heap.size 0:=(De.box _ h).later ((Below.refl _ _).alloc (Nat.le_refl _) _);have a2:De K' ((w.alloc (.cells cs.toArray 26)).alloc (.cells cs'.toArray 26)) t' (w.heap.size+1) 0:=by
  have:=De.box (w:=w.alloc (.cells cs.toArray 26)) 26 (h'.later hA.below);rw[World.size_alloc]at this;exact this
 have KO:=Hd ((Kd t K K' t').ok _ _ _ _ _ a1 a2);have HB:=Hd hB;obtain⟨k,s,n,ps,fs,vs⟩:=t;obtain⟨k',s',n',ps',fs',vs'⟩:=t';obtain⟨A,c,A',c',A'',c'',rfl,_⟩:=h.inv;obtain⟨B,d,B',d',B'',d'',rfl,_⟩:=h'.inv;clear a1 a2 hA hB h h';generalize B5 (.mk k s n ps fs vs) (.mk k' s' n' ps' fs' vs')=r at KO ⊢;simp only[Az]at KO HB ⊢;go_enter Tryz.func103,Tryz.ntmps103;go_wp2_with fail;refine KO.o.mono ?_;rintro e w1 ⟨rfl,hb⟩;have hC:=Hd (HB.o.trans hb);clear hb;go_wp2_with fail;go_ret
 exact⟨rfl,hC.o⟩
theorem Yd:Jc5:=by
 intro w;go_enter Tryz.func102,Tryz.ntmps102;go_wp2_with fail;go_ret
 exact⟨rfl,Below.refl _ _⟩
theorem Ss {K:Nat->Prop}{w0 w:World}{g c:Nat}{s:List Ty}(h:Fc K w0 w g c s) (hb:Below w0.heap.size w0 w) (hs:s.length<2) :
  Calls Tryz.prog 102 #[.slice (some ⟨g,0,none⟩) s.length c,.func (.func 103) #[] #[]] w fun e w'=>e=.returned (.slice (some ⟨g,0,none⟩) (Cf s).length c)/\Below w0.heap.size w0 w'/\Fc K w0 w' g c (Cf s):=by
 have hd:Cf s=s:=by
  match s,hs with
  | [],_=>rfl
  | [_],_=>rfl
  | _ :: _ :: _,hs=>exact absurd hs (by simp)
 rw[hd];have H:=Hd (And.intro h hb);clear h hb hd;have t2:decide ((s.length:Int)<2)=true:=by simp;omega
 go_enter Tryz.func102,Tryz.ntmps102;go_wp2_with fail;go_ret
 exact⟨rfl,H.o.2,H.o.1⟩
theorem F2 (a b:Ty) (l:List Ty):Cf (a :: b :: l)=if B5 a b=0 then Cf (b :: l) else a :: Cf (b :: l):=by rw[Cf]
theorem I7 (a b:Ty):∀l:List Ty,Cf (l++[a,b])=if B5 a b=0 then Cf (l++[a]) else Cf (l++[a])++[b]
 | []=>by
  simp only[List.nil_append];rw[F2];by_cases h:B5 a b=0
  ·rw[if_pos h,if_pos h,C5.1 h]
  ·rw[if_neg h,if_neg h];rfl
 | [x]=>by
  show Cf (x :: a :: [b])=if B5 a b=0 then Cf [x,a] else Cf [x,a]++[b]
  have ih:=I7 a b [];simp only[List.nil_append]at ih;rw[F2,ih,F2];by_cases h1:B5 a b=0
  ·simp only[if_pos h1]
  ·simp only[if_neg h1]
   split <;> rfl
 | x :: y :: l=>by
  have ih:=I7 a b (y :: l);show Cf (x :: y :: (l++[a,b]))=if B5 a b=0 then Cf (x :: y :: (l++[a])) else Cf (x :: y :: (l++[a]))++[b]
  have ih':Cf (y :: (l++[a,b]))=if B5 a b=0 then Cf (y :: (l++[a])) else Cf (y :: (l++[a]))++[b]:=ih
  rw[F2,ih',F2];by_cases h1:B5 a b=0
  ·simp only[if_pos h1]
  ·simp only[if_neg h1]
   split <;> rfl
theorem Hp {s:List Ty}{n:Nat}(h0:0<n) (h:n<s.length):Cf (s.take (n+1))=if B5 s[n - 1] s[n]=0 then Cf (s.take n) else Cf (s.take n)++[s[n]]:=by
 obtain⟨m,rfl⟩:∃m,n=m+1:=⟨n - 1,by omega⟩;have e1:s.take (m+1)=s.take m++[s[m]]:=List.take_succ_eq_append_getElem (by omega);have e2:s.take (m+1+1)=s.take m++[s[m],s[m+1]]:=by rw[List.take_succ_eq_append_getElem h,e1,List.append_assoc];rfl
 rw[e2,e1,I7];rfl
theorem Jam:Jc7:=by
 intro w;have h:=AnyF.slices_SortFunc_none (P:=Tryz.prog) (ρ:=Hw) { Jaj with } none 0 (.func (.func 101) #[] #[]) w;refine h.mono ?_;rintro e w' ⟨rfl,rfl⟩;exact⟨rfl,Below.refl _ _⟩
