import Derived.Test.YtlpfpehegddcfaaGreatDoorMw19
namespace Go.Proofs.YtlpfpehegddcfaaGreatDoor
set_option maxRecDepth 100000
set_option maxHeartbeats 64000000
open Go.RowKit
theorem Cl.nil (K:Nat->Prop) (w0 w:World):Cl K w0 w (.slice none 0 0) []:=⟨[],World.ownsRow_nil _ _ _ _,fun i h=>absurd h (by simp)⟩
theorem Jg2 (K:Nat->Prop) (w:World):Du K w [] none 0:=⟨⟨0,0,⟨by simp,by decide,fun _=>rfl,fun h=>absurd h (by simp)⟩,fun i h=>absurd h (by simp)⟩⟩
theorem Jg3 (K:Nat->Prop) (w:World):Dd K w [] none 0:=⟨⟨0,0,⟨by simp,by decide,fun _=>rfl,fun h=>absurd h (by simp)⟩,fun i h=>absurd h (by simp)⟩⟩
theorem L5 {K:Nat->Prop}{w w1 W:World}{A:Option Addr}{c:Nat}{l:List Ty}(h:Cl K w1 W (.slice A l.length c) l) (hB:∀b,K b->b<w.heap.size) (hb:Below w1.heap.size w1 W) (hg:w.heap.size<w1.heap.size) (hl:l.length<=1099511627776) (y0 y1 y2 y3 y4 y5:Value) :
  An (fun b=>K b\/w.heap.size<=b) ((((((W.setCell ⟨w.heap.size,0,none⟩ y0).setCell ⟨w.heap.size,1,none⟩ y1).setCell ⟨w.heap.size,2,none⟩ y2).setCell ⟨w.heap.size,3,none⟩ y3).setCell ⟨w.heap.size,4,none⟩ y4).setCell ⟨w.heap.size,5,none⟩ y5) (.mk 15 Bp 0 l [] []) [.int .i64 15,.string ⟨#[]⟩,.int .i64 0,.slice A l.length c,.slice none 0 0,.slice none 0 0]:=by
 refine An.of (by decide) ?_ (Jg2 _ _) (Jg3 _ _);rcases Fm.of_out h with ⟨hv,hn⟩|⟨g,c1,hv,hC,hi⟩
 ·subst hn;injection hv with h1 h2 h3
  subst h1 h3;exact⟨0,0,⟨by simp,by simp,fun _=>rfl,fun h=>absurd h (by simp)⟩,fun i h=>absurd h (by simp)⟩
 ·injection hv with h1 h2 h3
  subst h1 h3;refine⟨g,0,⟨hi.le,by omega,(fun h=>by cases h),fun _=>⟨rfl,.inr (by omega)⟩⟩,fun i hA=>?_⟩;obtain⟨cs,h4,h5⟩:=hi.reps i _ (List.getElem?_eq_getElem hA);refine⟨cs,fun j u hj=>?_,Jm h4 hB hb _ _ _ _ _ _⟩;rw[Jp W y0 y1 y2 y3 y4 y5 (p:=⟨g,0+i*6+j,none⟩) (by show g≠_;omega),Nat.zero_add];exact h5 j u hj
theorem Ou {K:Nat->Prop}{w0 w:World}{v:Value}{x:Ty}(h:Cl K w0 w v [x]):∃g c,v=.slice (some ⟨g,0,none⟩) 1 c/\∃cs,An K w0 x cs/\∀j u,cs[j]?=some u->w.cell? ⟨g,j,none⟩=some u:=by
 rcases Fm.of_out h with ⟨-,hn⟩|⟨g,c1,hv,-,hi⟩
 ·exact absurd hn (by simp)
 ·obtain⟨cs,h4,h5⟩:=hi.reps 0 x rfl;refine⟨g,c1,hv,cs,h4,fun j u hj=>?_⟩;have:=h5 j u hj;rw[Nat.zero_mul,Nat.zero_add]at this;exact this
theorem Ep (t:Ty):∀l,(Fz t l).length<=l.length+1
 | []=>by simp[Fz]
 | x :: l=>by
  have:=Ep t l;unfold Fz
  repeat' split
  all_goals simp only[List.length_cons]at *
  all_goals omega
theorem Ib {q:Ty->Bool}{l:List Ty}{i:Nat}(h:i<l.length):(l.take (i+1)).filter q=(l.take i).filter q++(if q l[i] then [l[i]] else []):=by
 rw[List.take_succ_eq_append_getElem h,List.filter_append];simp only[List.filter_cons,List.filter_nil]
theorem Qb {K:Nat->Prop}{w:World}{l:List Ty}{A:Option Addr}{c:Nat}(hL:Bh K w l A c) (aI:∀b,K b->b<w.heap.size) (hn:∀t∈Bk l,(Bi t).length<=1099511627776) (hl:(Bk l).length+1<=1099511627776) :
  Calls Tryz.prog 30 #[.slice A l.length c] w fun e w'=>∃cs,e=.returned (.agg cs.toArray)/\An (fun b=>K b\/w.heap.size<=b) w' (Hv (Dg (Hb l))) cs/\Below w.heap.size w w':=by
 obtain⟨wb,aC⟩:∃x,x=w.alloc (.cells #[.int .i64 0,.string ⟨#[]⟩,.int .i64 0,.slice none 0 0,.slice none 0 0,.slice none 0 0] 26):=⟨_,rfl⟩;have kQ:Z9 (Below w.heap.size w wb):=Hd (by rw[aC];exact (Below.refl _ _).alloc (Nat.le_refl _) _);have kZ:Z9 (wb.heap.size=w.heap.size+1):=Hd (by rw[aC];simp);have aD:Z9 (wb.heap[w.heap.size]?=some (.cells #[.int .i64 0,.string ⟨#[]⟩,.int .i64 0,.slice none 0 0,.slice none 0 0,.slice none 0 0] 26 (0,0))):=Hd (by rw[aC];exact heap_alloc_new w _);have KF:=Hd (Xx l _ wb wb A c (.slice none 0 0) [] (hL.later kQ.o) (Below.refl _ _) (Cl.nil _ _ _) (by simp only[List.length_nil];omega));have HN:=Hd fun t (h:t∈Fg l)=>hn t (G2.1 h).1;have kD:Z9 ((Fg l).length+1<=1099511627776):=Hd (by have:=S8 l;omega);have kF:=Hd aI;clear hL hn hl aI;go_enter Tryz.func30,Tryz.ntmps30;go_wp2_with fail;rw[<-aC];clear aC;refine KF.o.mono ?_;rintro e w1 ⟨v1,rfl,ho,hb⟩;rw[List.nil_append]at ho;have aF:=Hd ho;have kC:=Hd hb;obtain⟨A0,c0,rfl,hs⟩:=Cl.src ho (by have:=kD.o;omega);have kW:=Hd hs;have aG:=Hd (Ha (c:=c0) hs 3);have aE:=Hd (Ha (c:=c0) hs 2);clear ho hb KF hs;go_wp2_with fail;refine aG.o.mono ?_;rintro e w2 ⟨rfl,rfl⟩;clear aG
 cases h3:Cv 3 (Fg l) with
 | true=>
  have KB:=Hd (Np (c:=c0) 3 (fun b (h:K b)=>by have:=kZ.o;have:=kF.o b h;omega) kC.o kW.o HN.o kD.o);have kM:H3 3 (Fg l)=O0 l:=by rw[O0,h3,if_pos rfl]
  have hX:(H3 3 (Fg l)).length<=1099511627776:=Nat.le_trans (No _ _) kD.o;generalize H3 3 (Fg l)=F at *;have kU:=Hd kM;have kB:=Hd hX;clear kM hX h3 HN aE;go_wp2_with fail;refine KB.o.mono ?_;rintro e w2 ⟨v2,rfl,hF,hE⟩;have HB1:=Hd (kC.o.trans (hE.mono kC.o.size));obtain⟨A1,c1,rfl,aB⟩:=Cl.src hF kB.o;have hO:=Hd aB;clear hF hE aB KB aF kC kW kD;have hV:=Hd (Ha (c:=c1) hO.o 7);have hW:=Hd (Ha (c:=c1) hO.o 8);obtain⟨qn,hY⟩:∃q,q=Cv 7 F:=⟨_,rfl⟩;obtain⟨qs,hZ⟩:∃q,q=Cv 8 F:=⟨_,rfl⟩;rw[<-hY]at hV;rw[<-hZ]at hW;have kV:Z9 (Hb l=F.filter fun t=>!Cx qn qs t):=Hd (by rw[Hb,<-kU.o,<-hY,<-hZ]);clear hY hZ;go_wp2_with fail;refine hV.o.mono ?_;rintro e wa ⟨rfl,rfl⟩;go_wp2_with fail;refine hW.o.mono ?_;rintro e wd ⟨rfl,rfl⟩;go_wp2_with fail;obtain⟨b,kH,aH,kJ⟩:=hO.o;have kR:=Hd kH;have kT:=Hd kJ;clear kH kJ hV hW
  go_loopw [6,7] (fun ov iv wr=>∃(i:Nat) (acc:List Ty),i<=F.length/\iv=.int .i64 i/\M0 acc/\(∀x,x∈acc↔x∈(F.take i).filter fun t=>!Cx qn qs t)/\acc.length<=i/\Cl K wd wr ov acc/\Below wd.heap.size wd wr) (fun _ v _=>F.length - (intOf v).toNat)
  case atStart=>exact⟨0,[],by omega,rfl,List.Pairwise.nil,fun x=>by simp,Nat.le_refl _,Cl.nil _ _ _,Below.refl _ _⟩
  case round=>
   obtain⟨i,acc,hi,rfl,has,hS,kI,ho,hb⟩:=hrel;have hN:=Hd has;have hD:=Hd hS;have hM:=Hd kI;have hA:=Hd (And.intro ho hb);obtain⟨vs,kP,-⟩:=ho;obtain⟨A2,c2,rfl,-⟩:=Fh kP;clear kP hb has hS kI;by_cases hT:i<F.length
   ·have t1:decide ((i:Int)<(F.length:Int))=true:=(by simp;omega);have hG:wrap64 ((i:Int)+1)=((i+1:Nat):Int):=Ax (by omega);have HM:=Hd (Bf hT);have aA:=kR.o (by omega);obtain⟨cs,hB,hC⟩:=kT.o i hT;have hQ:=Hd (Ib (q:=fun t=>!Cx qn qs t) hT);subst aA;generalize F[i]=t at hB hQ;obtain⟨k2,s2,n2,hI,hH,hJ⟩:=t;have KP:=Hd (Q7 hA.o.1 hN.o (hB.later HB1.o) hA.o.2 (by have:=hM.o;have:=kB.o;omega));unfold G8 at KP;obtain⟨Aq,cq,Ag,cg,Ah,ch,rfl,-⟩:=hB.inv;have hR:Z9 (i+1<=F.length):=Hd hT;have y0:=Aa hA.o.2 (hC 0 _ rfl);have y1:=Aa hA.o.2 (hC 1 _ rfl);have y2:=Aa hA.o.2 (hC 2 _ rfl);have y3:=Aa hA.o.2 (hC 3 _ rfl);have y4:=Aa hA.o.2 (hC 4 _ rfl);have y5:=Aa hA.o.2 (hC 5 _ rfl);rw[Nat.add_zero]at y0;simp only[Ao]at KP;clear hi hC hB;by_cases h9:k2=9
    ·have g9:(k2 == 9)=true:=(by simpa using h9);have g10:(k2 == 10)=false:=by subst h9;rfl
     cases qn with
     | true=>
      have HQ:Z9 ((!Cx true qs (.mk k2 s2 n2 hI hH hJ))=false):=Hd (by simp[Cx,Ty.k,h9]);clear h9 KP;go_wp2_with fail;refine⟨⟨i+1,acc,hR.o,by first|rfl|rw[hG],hN.o,fun x=>?p1,Nat.le_succ_of_le hM.o,hA.o.1,hA.o.2⟩,?p3⟩
      case p1=>rw[hQ.o,HQ.o];simpa using hD.o x
      case p3=>first|exact HM.o|(rw[hG];exact HM.o)
     | false=>
      have HQ:Z9 ((!Cx false qs (.mk k2 s2 n2 hI hH hJ))=true):=Hd (by simp[Cx,Ty.k,h9]);clear h9;go_wp2_with fail;refine KP.o.mono ?_;rintro e w2 ⟨v2,rfl,hF,hE⟩;have hK:=Hd (And.intro hF hE);clear hF hE KP y0 y1 y2 y3 y4 y5;go_wp2_with fail;refine⟨⟨i+1,_,hR.o,by first|rfl|rw[hG],D9 _ hN.o,fun x=>?p1,?p2,hK.o.1,hK.o.2⟩,?p3⟩
      case p1=>rw[hQ.o,HQ.o,D2,hD.o];simp[or_comm]
      case p2=>exact Nat.le_trans (Ep _ _) (Nat.succ_le_succ hM.o)
      case p3=>first|exact HM.o|(rw[hG];exact HM.o)
    ·have g9:(k2 == 9)=false:=(by simpa using h9);by_cases hP:k2=10
     ·have g10:(k2 == 10)=true:=by simpa using hP
      cases qs with
      | true=>
       have HQ:Z9 ((!Cx qn true (.mk k2 s2 n2 hI hH hJ))=false):=Hd (by simp[Cx,Ty.k,hP]);clear h9 hP KP;go_wp2_with fail;refine⟨⟨i+1,acc,hR.o,by first|rfl|rw[hG],hN.o,fun x=>?p1,Nat.le_succ_of_le hM.o,hA.o.1,hA.o.2⟩,?p3⟩
       case p1=>rw[hQ.o,HQ.o];simpa using hD.o x
       case p3=>first|exact HM.o|(rw[hG];exact HM.o)
      | false=>
       have HQ:Z9 ((!Cx qn false (.mk k2 s2 n2 hI hH hJ))=true):=Hd (by simp[Cx,Ty.k,h9]);clear h9 hP;go_wp2_with fail;refine KP.o.mono ?_;rintro e w2 ⟨v2,rfl,hF,hE⟩;have hK:=Hd (And.intro hF hE);clear hF hE KP y0 y1 y2 y3 y4 y5;go_wp2_with fail;refine⟨⟨i+1,_,hR.o,by first|rfl|rw[hG],D9 _ hN.o,fun x=>?p1,?p2,hK.o.1,hK.o.2⟩,?p3⟩
       case p1=>rw[hQ.o,HQ.o,D2,hD.o];simp[or_comm]
       case p2=>exact Nat.le_trans (Ep _ _) (Nat.succ_le_succ hM.o)
       case p3=>first|exact HM.o|(rw[hG];exact HM.o)
     ·have g10:(k2 == 10)=false:=(by simpa using hP);have HQ:Z9 ((!Cx qn qs (.mk k2 s2 n2 hI hH hJ))=true):=Hd (by simp[Cx,Ty.k,h9,hP]);clear h9 hP;go_wp2_with fail;refine KP.o.mono ?_;rintro e w2 ⟨v2,rfl,hF,hE⟩;have hK:=Hd (And.intro hF hE);clear hF hE KP y0 y1 y2 y3 y4 y5;go_wp2_with fail;refine⟨⟨i+1,_,hR.o,by first|rfl|rw[hG],D9 _ hN.o,fun x=>?p1,?p2,hK.o.1,hK.o.2⟩,?p3⟩
      case p1=>rw[hQ.o,HQ.o,D2,hD.o];simp[or_comm]
      case p2=>exact Nat.le_trans (Ep _ _) (Nat.succ_le_succ hM.o)
      case p3=>first|exact HM.o|(rw[hG];exact HM.o)
   ·have t1:decide ((i:Int)<(F.length:Int))=false:=(by simp;omega);have HE:Z9 (Dg (Hb l)=acc):=Hd (Hx hN.o fun x=>by rw[hD.o,List.take_of_length_le (by omega),kV.o]);have kE:=Hd (HB1.o.trans (hA.o.2.mono HB1.o.size));have hU:=Hd (kQ.o.trans (kE.o.mono kQ.o.size));have rb:=F8 aD.o kE.o;have q0:=Ch rb 0;have q1:=Ch rb 1;have q2:=Ch rb 2;have q3:=Ch rb 3;have q4:=Ch rb 4;have q5:=Ch rb 5;have z0:=Lib.frozen_of_heap rb 0;have z1:=Lib.frozen_of_heap rb 1;have z2:=Lib.frozen_of_heap rb 2;have z3:=Lib.frozen_of_heap rb 3;have z4:=Lib.frozen_of_heap rb 4;have z5:=Lib.frozen_of_heap rb 5;have kS:Z9 (acc.length<=1099511627776):=Hd (by have:=hM.o;have:=kB.o;omega);clear hi;have kY:=Hd (L5 (w:=w) hA.o.1 kF.o hA.o.2 (by have h1:=kZ.o;have h2:=HB1.o.size;omega) kS.o);rcases acc with _|⟨x,_|⟨y,d⟩⟩
    ·have kN:True:=trivial;have rs:=Bt rb (.int .i64 1) (.string ⟨#[]⟩) (.int .i64 0) (.slice none 0 0) (.slice none 0 0) (.slice none 0 0);have r0:=Ch rs 0;have r1:=Ch rs 1;have r2:=Ch rs 2;have r3:=Ch rs 3;have r4:=Ch rs 4;have r5:=Ch rs 5;clear rb rs;go_wp2_with fail;refine bodyPost_ret (v:=.agg #[.int .i64 1,.string ⟨#[]⟩,.int .i64 0,.slice none 0 0,.slice none 0 0,.slice none 0 0]) (by simp[results,Tryz.results30,go_sem,r0,r1,r2,r3,r4,r5]) rfl ?_;clear r0 r1 r2 r3 r4 r5 q0 q1 q2 q3 q4 q5 z0 z1 z2 z3 z4 z5;rw[HE.o];exact⟨[.int .i64 1,.string ⟨#[]⟩,.int .i64 0,.slice none 0 0,.slice none 0 0,.slice none 0 0],rfl,Ky _ _ 1,Bj hU.o (Nat.le_refl _) _ _ _ _ _ _⟩
    ·obtain⟨g,c3,kA,zz⟩:=Ou hA.o.1;obtain⟨k2,s2,n2,hI,hH,hJ⟩:=x;obtain⟨cs,hB,hC⟩:=zz;obtain⟨Aq,cq,Ag,cg,Ah,ch,rfl,-⟩:=hB.inv;have kG:=Hd hB;simp only[Ao]at hC kG;have y0:=hC 0 _ rfl;have y1:=hC 1 _ rfl;have y2:=hC 2 _ rfl;have y3:=hC 3 _ rfl;have y4:=hC 4 _ rfl;have y5:=hC 5 _ rfl;injection kA with kA aJ aK
     subst kA;clear hC hB;have rs:=Bt rb (.int .i64 k2) (.string s2) (.int .i64 n2) (.slice Aq hI.length cq) (.slice Ag hH.length cg) (.slice Ah hJ.length ch);have r0:=Ch rs 0;have r1:=Ch rs 1;have r2:=Ch rs 2;have r3:=Ch rs 3;have r4:=Ch rs 4;have r5:=Ch rs 5;clear rb rs;go_wp2_with fail;refine bodyPost_ret (v:=.agg #[.int .i64 k2,.string s2,.int .i64 n2,.slice Aq hI.length cq,.slice Ag hH.length cg,.slice Ah hJ.length ch]) (by simp[results,Tryz.results30,go_sem,r0,r1,r2,r3,r4,r5]) rfl ?_;clear r0 r1 r2 r3 r4 r5 q0 q1 q2 q3 q4 q5 z0 z1 z2 z3 z4 z5;rw[HE.o];exact⟨[.int .i64 k2,.string s2,.int .i64 n2,.slice Aq hI.length cq,.slice Ag hH.length cg,.slice Ah hJ.length ch],rfl,Jm kG.o kF.o hA.o.2 _ _ _ _ _ _,Bj hU.o (Nat.le_refl _) _ _ _ _ _ _⟩
    ·have kK:((x :: y :: d).length:Int)≠0:=(by simp;omega);have kL:((x :: y :: d).length:Int)≠1:=(by simp;omega);have te0:(((x :: y :: d).length:Int) == 0)=false:=(by simpa using kK);have te1:(((x :: y :: d).length:Int) == 1)=false:=(by simpa using kL);have kO:Hv (x :: y :: d)=.mk 15 Bp 0 (x :: y :: d) [] []:=rfl;clear kK kL;generalize x :: y :: d=dd at *;have kX:=Hd kO;clear kO;have rs:=Bt rb (.int .i64 15) (.string ⟨#[]⟩) (.int .i64 0) (.slice A2 dd.length c2) (.slice none 0 0) (.slice none 0 0);have r0:=Ch rs 0;have r1:=Ch rs 1;have r2:=Ch rs 2;have r3:=Ch rs 3;have r4:=Ch rs 4;have r5:=Ch rs 5;clear rb rs;go_wp2_with fail;refine bodyPost_ret (v:=.agg #[.int .i64 15,.string ⟨#[]⟩,.int .i64 0,.slice A2 dd.length c2,.slice none 0 0,.slice none 0 0]) (by simp[results,Tryz.results30,go_sem,r0,r1,r2,r3,r4,r5]) rfl ?_;clear r0 r1 r2 r3 r4 r5 q0 q1 q2 q3 q4 q5 z0 z1 z2 z3 z4 z5;rw[HE.o,kX.o];exact⟨[.int .i64 15,.string ⟨#[]⟩,.int .i64 0,.slice A2 dd.length c2,.slice none 0 0,.slice none 0 0],rfl,kY.o _ _ _ _ _ _,Bj hU.o (Nat.le_refl _) _ _ _ _ _ _⟩
 | false=>
  go_wp2_with fail;refine aE.o.mono ?_;rintro e w3 ⟨rfl,rfl⟩;clear aE
  cases h2:Cv 2 (Fg l) with
  | true=>
   have KB:=Hd (Np (c:=c0) 2 (fun b (h:K b)=>by have:=kZ.o;have:=kF.o b h;omega) kC.o kW.o HN.o kD.o);have kM:H3 2 (Fg l)=O0 l:=by rw[O0,h3,h2,if_neg (by decide),if_pos rfl]
   have hX:(H3 2 (Fg l)).length<=1099511627776:=Nat.le_trans (No _ _) kD.o;generalize H3 2 (Fg l)=F at *;have kU:=Hd kM;have kB:=Hd hX;clear kM hX h3 h2 HN;go_wp2_with fail;refine KB.o.mono ?_;rintro e w2 ⟨v2,rfl,hF,hE⟩;have HB1:=Hd (kC.o.trans (hE.mono kC.o.size));obtain⟨A1,c1,rfl,aB⟩:=Cl.src hF kB.o;have hO:=Hd aB;clear hF hE aB KB aF kC kW kD;have hV:=Hd (Ha (c:=c1) hO.o 7);have hW:=Hd (Ha (c:=c1) hO.o 8);obtain⟨qn,hY⟩:∃q,q=Cv 7 F:=⟨_,rfl⟩;obtain⟨qs,hZ⟩:∃q,q=Cv 8 F:=⟨_,rfl⟩;rw[<-hY]at hV;rw[<-hZ]at hW;have kV:Z9 (Hb l=F.filter fun t=>!Cx qn qs t):=Hd (by rw[Hb,<-kU.o,<-hY,<-hZ]);clear hY hZ;go_wp2_with fail;refine hV.o.mono ?_;rintro e wa ⟨rfl,rfl⟩;go_wp2_with fail;refine hW.o.mono ?_;rintro e wd ⟨rfl,rfl⟩;go_wp2_with fail;obtain⟨b,kH,aH,kJ⟩:=hO.o;have kR:=Hd kH;have kT:=Hd kJ;clear kH kJ hV hW
   go_loopw [6,7] (fun ov iv wr=>∃(i:Nat) (acc:List Ty),i<=F.length/\iv=.int .i64 i/\M0 acc/\(∀x,x∈acc↔x∈(F.take i).filter fun t=>!Cx qn qs t)/\acc.length<=i/\Cl K wd wr ov acc/\Below wd.heap.size wd wr) (fun _ v _=>F.length - (intOf v).toNat)
   case atStart=>exact⟨0,[],by omega,rfl,List.Pairwise.nil,fun x=>by simp,Nat.le_refl _,Cl.nil _ _ _,Below.refl _ _⟩
   case round=>
    obtain⟨i,acc,hi,rfl,has,hS,kI,ho,hb⟩:=hrel;have hN:=Hd has;have hD:=Hd hS;have hM:=Hd kI;have hA:=Hd (And.intro ho hb);obtain⟨vs,kP,-⟩:=ho;obtain⟨A2,c2,rfl,-⟩:=Fh kP;clear kP hb has hS kI;by_cases hT:i<F.length
    ·have t1:decide ((i:Int)<(F.length:Int))=true:=(by simp;omega);have hG:wrap64 ((i:Int)+1)=((i+1:Nat):Int):=Ax (by omega);have HM:=Hd (Bf hT);have aA:=kR.o (by omega);obtain⟨cs,hB,hC⟩:=kT.o i hT;have hQ:=Hd (Ib (q:=fun t=>!Cx qn qs t) hT);subst aA;generalize F[i]=t at hB hQ;obtain⟨k2,s2,n2,hI,hH,hJ⟩:=t;have KP:=Hd (Q7 hA.o.1 hN.o (hB.later HB1.o) hA.o.2 (by have:=hM.o;have:=kB.o;omega));unfold G8 at KP;obtain⟨Aq,cq,Ag,cg,Ah,ch,rfl,-⟩:=hB.inv;have hR:Z9 (i+1<=F.length):=Hd hT;have y0:=Aa hA.o.2 (hC 0 _ rfl);have y1:=Aa hA.o.2 (hC 1 _ rfl);have y2:=Aa hA.o.2 (hC 2 _ rfl);have y3:=Aa hA.o.2 (hC 3 _ rfl);have y4:=Aa hA.o.2 (hC 4 _ rfl);have y5:=Aa hA.o.2 (hC 5 _ rfl);rw[Nat.add_zero]at y0;simp only[Ao]at KP;clear hi hC hB;by_cases h9:k2=9
     ·have g9:(k2 == 9)=true:=(by simpa using h9);have g10:(k2 == 10)=false:=by subst h9;rfl
      cases qn with
      | true=>
       have HQ:Z9 ((!Cx true qs (.mk k2 s2 n2 hI hH hJ))=false):=Hd (by simp[Cx,Ty.k,h9]);clear h9 KP;go_wp2_with fail;refine⟨⟨i+1,acc,hR.o,by first|rfl|rw[hG],hN.o,fun x=>?p1,Nat.le_succ_of_le hM.o,hA.o.1,hA.o.2⟩,?p3⟩
       case p1=>rw[hQ.o,HQ.o];simpa using hD.o x
       case p3=>first|exact HM.o|(rw[hG];exact HM.o)
      | false=>
       have HQ:Z9 ((!Cx false qs (.mk k2 s2 n2 hI hH hJ))=true):=Hd (by simp[Cx,Ty.k,h9]);clear h9;go_wp2_with fail;refine KP.o.mono ?_;rintro e w2 ⟨v2,rfl,hF,hE⟩;have hK:=Hd (And.intro hF hE);clear hF hE KP y0 y1 y2 y3 y4 y5;go_wp2_with fail;refine⟨⟨i+1,_,hR.o,by first|rfl|rw[hG],D9 _ hN.o,fun x=>?p1,?p2,hK.o.1,hK.o.2⟩,?p3⟩
       case p1=>rw[hQ.o,HQ.o,D2,hD.o];simp[or_comm]
       case p2=>exact Nat.le_trans (Ep _ _) (Nat.succ_le_succ hM.o)
       case p3=>first|exact HM.o|(rw[hG];exact HM.o)
     ·have g9:(k2 == 9)=false:=(by simpa using h9);by_cases hP:k2=10
      ·have g10:(k2 == 10)=true:=by simpa using hP
       cases qs with
       | true=>
        have HQ:Z9 ((!Cx qn true (.mk k2 s2 n2 hI hH hJ))=false):=Hd (by simp[Cx,Ty.k,hP]);clear h9 hP KP;go_wp2_with fail;refine⟨⟨i+1,acc,hR.o,by first|rfl|rw[hG],hN.o,fun x=>?p1,Nat.le_succ_of_le hM.o,hA.o.1,hA.o.2⟩,?p3⟩
        case p1=>rw[hQ.o,HQ.o];simpa using hD.o x
        case p3=>first|exact HM.o|(rw[hG];exact HM.o)
       | false=>
        have HQ:Z9 ((!Cx qn false (.mk k2 s2 n2 hI hH hJ))=true):=Hd (by simp[Cx,Ty.k,h9]);clear h9 hP;go_wp2_with fail;refine KP.o.mono ?_;rintro e w2 ⟨v2,rfl,hF,hE⟩;have hK:=Hd (And.intro hF hE);clear hF hE KP y0 y1 y2 y3 y4 y5;go_wp2_with fail;refine⟨⟨i+1,_,hR.o,by first|rfl|rw[hG],D9 _ hN.o,fun x=>?p1,?p2,hK.o.1,hK.o.2⟩,?p3⟩
        case p1=>rw[hQ.o,HQ.o,D2,hD.o];simp[or_comm]
        case p2=>exact Nat.le_trans (Ep _ _) (Nat.succ_le_succ hM.o)
        case p3=>first|exact HM.o|(rw[hG];exact HM.o)
      ·have g10:(k2 == 10)=false:=(by simpa using hP);have HQ:Z9 ((!Cx qn qs (.mk k2 s2 n2 hI hH hJ))=true):=Hd (by simp[Cx,Ty.k,h9,hP]);clear h9 hP;go_wp2_with fail;refine KP.o.mono ?_;rintro e w2 ⟨v2,rfl,hF,hE⟩;have hK:=Hd (And.intro hF hE);clear hF hE KP y0 y1 y2 y3 y4 y5;go_wp2_with fail;refine⟨⟨i+1,_,hR.o,by first|rfl|rw[hG],D9 _ hN.o,fun x=>?p1,?p2,hK.o.1,hK.o.2⟩,?p3⟩
       case p1=>rw[hQ.o,HQ.o,D2,hD.o];simp[or_comm]
       case p2=>exact Nat.le_trans (Ep _ _) (Nat.succ_le_succ hM.o)
       case p3=>first|exact HM.o|(rw[hG];exact HM.o)
    ·have t1:decide ((i:Int)<(F.length:Int))=false:=(by simp;omega);have HE:Z9 (Dg (Hb l)=acc):=Hd (Hx hN.o fun x=>by rw[hD.o,List.take_of_length_le (by omega),kV.o]);have kE:=Hd (HB1.o.trans (hA.o.2.mono HB1.o.size));have hU:=Hd (kQ.o.trans (kE.o.mono kQ.o.size));have rb:=F8 aD.o kE.o;have q0:=Ch rb 0;have q1:=Ch rb 1;have q2:=Ch rb 2;have q3:=Ch rb 3;have q4:=Ch rb 4;have q5:=Ch rb 5;have z0:=Lib.frozen_of_heap rb 0;have z1:=Lib.frozen_of_heap rb 1;have z2:=Lib.frozen_of_heap rb 2;have z3:=Lib.frozen_of_heap rb 3;have z4:=Lib.frozen_of_heap rb 4;have z5:=Lib.frozen_of_heap rb 5;have kS:Z9 (acc.length<=1099511627776):=Hd (by have:=hM.o;have:=kB.o;omega);clear hi;have kY:=Hd (L5 (w:=w) hA.o.1 kF.o hA.o.2 (by have h1:=kZ.o;have h2:=HB1.o.size;omega) kS.o);rcases acc with _|⟨x,_|⟨y,d⟩⟩
     ·have kN:True:=trivial;have rs:=Bt rb (.int .i64 1) (.string ⟨#[]⟩) (.int .i64 0) (.slice none 0 0) (.slice none 0 0) (.slice none 0 0);have r0:=Ch rs 0;have r1:=Ch rs 1;have r2:=Ch rs 2;have r3:=Ch rs 3;have r4:=Ch rs 4;have r5:=Ch rs 5;clear rb rs;go_wp2_with fail;refine bodyPost_ret (v:=.agg #[.int .i64 1,.string ⟨#[]⟩,.int .i64 0,.slice none 0 0,.slice none 0 0,.slice none 0 0]) (by simp[results,Tryz.results30,go_sem,r0,r1,r2,r3,r4,r5]) rfl ?_;clear r0 r1 r2 r3 r4 r5 q0 q1 q2 q3 q4 q5 z0 z1 z2 z3 z4 z5;rw[HE.o];exact⟨[.int .i64 1,.string ⟨#[]⟩,.int .i64 0,.slice none 0 0,.slice none 0 0,.slice none 0 0],rfl,Ky _ _ 1,Bj hU.o (Nat.le_refl _) _ _ _ _ _ _⟩
     ·obtain⟨g,c3,kA,zz⟩:=Ou hA.o.1;obtain⟨k2,s2,n2,hI,hH,hJ⟩:=x;obtain⟨cs,hB,hC⟩:=zz;obtain⟨Aq,cq,Ag,cg,Ah,ch,rfl,-⟩:=hB.inv;have kG:=Hd hB;simp only[Ao]at hC kG;have y0:=hC 0 _ rfl;have y1:=hC 1 _ rfl;have y2:=hC 2 _ rfl;have y3:=hC 3 _ rfl;have y4:=hC 4 _ rfl;have y5:=hC 5 _ rfl;injection kA with kA aJ aK
      subst kA;clear hC hB;have rs:=Bt rb (.int .i64 k2) (.string s2) (.int .i64 n2) (.slice Aq hI.length cq) (.slice Ag hH.length cg) (.slice Ah hJ.length ch);have r0:=Ch rs 0;have r1:=Ch rs 1;have r2:=Ch rs 2;have r3:=Ch rs 3;have r4:=Ch rs 4;have r5:=Ch rs 5;clear rb rs;go_wp2_with fail;refine bodyPost_ret (v:=.agg #[.int .i64 k2,.string s2,.int .i64 n2,.slice Aq hI.length cq,.slice Ag hH.length cg,.slice Ah hJ.length ch]) (by simp[results,Tryz.results30,go_sem,r0,r1,r2,r3,r4,r5]) rfl ?_;clear r0 r1 r2 r3 r4 r5 q0 q1 q2 q3 q4 q5 z0 z1 z2 z3 z4 z5;rw[HE.o];exact⟨[.int .i64 k2,.string s2,.int .i64 n2,.slice Aq hI.length cq,.slice Ag hH.length cg,.slice Ah hJ.length ch],rfl,Jm kG.o kF.o hA.o.2 _ _ _ _ _ _,Bj hU.o (Nat.le_refl _) _ _ _ _ _ _⟩
     ·have kK:((x :: y :: d).length:Int)≠0:=(by simp;omega);have kL:((x :: y :: d).length:Int)≠1:=(by simp;omega);have te0:(((x :: y :: d).length:Int) == 0)=false:=(by simpa using kK);have te1:(((x :: y :: d).length:Int) == 1)=false:=(by simpa using kL);have kO:Hv (x :: y :: d)=.mk 15 Bp 0 (x :: y :: d) [] []:=rfl;clear kK kL;generalize x :: y :: d=dd at *;have kX:=Hd kO;clear kO;have rs:=Bt rb (.int .i64 15) (.string ⟨#[]⟩) (.int .i64 0) (.slice A2 dd.length c2) (.slice none 0 0) (.slice none 0 0);have r0:=Ch rs 0;have r1:=Ch rs 1;have r2:=Ch rs 2;have r3:=Ch rs 3;have r4:=Ch rs 4;have r5:=Ch rs 5;clear rb rs;go_wp2_with fail;refine bodyPost_ret (v:=.agg #[.int .i64 15,.string ⟨#[]⟩,.int .i64 0,.slice A2 dd.length c2,.slice none 0 0,.slice none 0 0]) (by simp[results,Tryz.results30,go_sem,r0,r1,r2,r3,r4,r5]) rfl ?_;clear r0 r1 r2 r3 r4 r5 q0 q1 q2 q3 q4 q5 z0 z1 z2 z3 z4 z5;rw[HE.o,kX.o];exact⟨[.int .i64 15,.string ⟨#[]⟩,.int .i64 0,.slice A2 dd.length c2,.slice none 0 0,.slice none 0 0],rfl,kY.o _ _ _ _ _ _,Bj hU.o (Nat.le_refl _) _ _ _ _ _ _⟩
  | false=>
   have kM:Fg l=O0 l:=by rw[O0,h3,h2,if_neg (by decide),if_neg (by decide)]
   have kB:Z9 ((Fg l).length<=1099511627776):=Hd (by have:=kD.o;omega);generalize Fg l=F at *;have kU:=Hd kM;have HB1:=kC;have hO:=kW;have A1:=A0;clear kM h3 h2 HN kD A1;have hV:=Hd (Ha (c:=c0) hO.o 7);have hW:=Hd (Ha (c:=c0) hO.o 8);obtain⟨qn,hY⟩:∃q,q=Cv 7 F:=⟨_,rfl⟩;obtain⟨qs,hZ⟩:∃q,q=Cv 8 F:=⟨_,rfl⟩;rw[<-hY]at hV;rw[<-hZ]at hW;have kV:Z9 (Hb l=F.filter fun t=>!Cx qn qs t):=Hd (by rw[Hb,<-kU.o,<-hY,<-hZ]);clear hY hZ;go_wp2_with fail;refine hV.o.mono ?_;rintro e wa ⟨rfl,rfl⟩;go_wp2_with fail;refine hW.o.mono ?_;rintro e wd ⟨rfl,rfl⟩;go_wp2_with fail;obtain⟨b,kH,aH,kJ⟩:=hO.o;have kR:=Hd kH;have kT:=Hd kJ;clear kH kJ hV hW
   go_loopw [6,7] (fun ov iv wr=>∃(i:Nat) (acc:List Ty),i<=F.length/\iv=.int .i64 i/\M0 acc/\(∀x,x∈acc↔x∈(F.take i).filter fun t=>!Cx qn qs t)/\acc.length<=i/\Cl K wd wr ov acc/\Below wd.heap.size wd wr) (fun _ v _=>F.length - (intOf v).toNat)
   case atStart=>exact⟨0,[],by omega,rfl,List.Pairwise.nil,fun x=>by simp,Nat.le_refl _,Cl.nil _ _ _,Below.refl _ _⟩
   case round=>
    obtain⟨i,acc,hi,rfl,has,hS,kI,ho,hb⟩:=hrel;have hN:=Hd has;have hD:=Hd hS;have hM:=Hd kI;have hA:=Hd (And.intro ho hb);obtain⟨vs,kP,-⟩:=ho;obtain⟨A2,c2,rfl,-⟩:=Fh kP;clear kP hb has hS kI;by_cases hT:i<F.length
    ·have t1:decide ((i:Int)<(F.length:Int))=true:=(by simp;omega);have hG:wrap64 ((i:Int)+1)=((i+1:Nat):Int):=Ax (by omega);have HM:=Hd (Bf hT);have aA:=kR.o (by omega);obtain⟨cs,hB,hC⟩:=kT.o i hT;have hQ:=Hd (Ib (q:=fun t=>!Cx qn qs t) hT);subst aA;generalize F[i]=t at hB hQ;obtain⟨k2,s2,n2,hI,hH,hJ⟩:=t;have KP:=Hd (Q7 hA.o.1 hN.o (hB.later HB1.o) hA.o.2 (by have:=hM.o;have:=kB.o;omega));unfold G8 at KP;obtain⟨Aq,cq,Ag,cg,Ah,ch,rfl,-⟩:=hB.inv;have hR:Z9 (i+1<=F.length):=Hd hT;have y0:=Aa hA.o.2 (hC 0 _ rfl);have y1:=Aa hA.o.2 (hC 1 _ rfl);have y2:=Aa hA.o.2 (hC 2 _ rfl);have y3:=Aa hA.o.2 (hC 3 _ rfl);have y4:=Aa hA.o.2 (hC 4 _ rfl);have y5:=Aa hA.o.2 (hC 5 _ rfl);rw[Nat.add_zero]at y0;simp only[Ao]at KP;clear hi hC hB;by_cases h9:k2=9
     ·have g9:(k2 == 9)=true:=(by simpa using h9);have g10:(k2 == 10)=false:=by subst h9;rfl
      cases qn with
      | true=>
       have HQ:Z9 ((!Cx true qs (.mk k2 s2 n2 hI hH hJ))=false):=Hd (by simp[Cx,Ty.k,h9]);clear h9 KP;go_wp2_with fail;refine⟨⟨i+1,acc,hR.o,by first|rfl|rw[hG],hN.o,fun x=>?p1,Nat.le_succ_of_le hM.o,hA.o.1,hA.o.2⟩,?p3⟩
       case p1=>rw[hQ.o,HQ.o];simpa using hD.o x
       case p3=>first|exact HM.o|(rw[hG];exact HM.o)
      | false=>
       have HQ:Z9 ((!Cx false qs (.mk k2 s2 n2 hI hH hJ))=true):=Hd (by simp[Cx,Ty.k,h9]);clear h9;go_wp2_with fail;refine KP.o.mono ?_;rintro e w2 ⟨v2,rfl,hF,hE⟩;have hK:=Hd (And.intro hF hE);clear hF hE KP y0 y1 y2 y3 y4 y5;go_wp2_with fail;refine⟨⟨i+1,_,hR.o,by first|rfl|rw[hG],D9 _ hN.o,fun x=>?p1,?p2,hK.o.1,hK.o.2⟩,?p3⟩
       case p1=>rw[hQ.o,HQ.o,D2,hD.o];simp[or_comm]
       case p2=>exact Nat.le_trans (Ep _ _) (Nat.succ_le_succ hM.o)
       case p3=>first|exact HM.o|(rw[hG];exact HM.o)
     ·have g9:(k2 == 9)=false:=(by simpa using h9);by_cases hP:k2=10
      ·have g10:(k2 == 10)=true:=by simpa using hP
       cases qs with
       | true=>
        have HQ:Z9 ((!Cx qn true (.mk k2 s2 n2 hI hH hJ))=false):=Hd (by simp[Cx,Ty.k,hP]);clear h9 hP KP;go_wp2_with fail;refine⟨⟨i+1,acc,hR.o,by first|rfl|rw[hG],hN.o,fun x=>?p1,Nat.le_succ_of_le hM.o,hA.o.1,hA.o.2⟩,?p3⟩
        case p1=>rw[hQ.o,HQ.o];simpa using hD.o x
        case p3=>first|exact HM.o|(rw[hG];exact HM.o)
       | false=>
        have HQ:Z9 ((!Cx qn false (.mk k2 s2 n2 hI hH hJ))=true):=Hd (by simp[Cx,Ty.k,h9]);clear h9 hP;go_wp2_with fail;refine KP.o.mono ?_;rintro e w2 ⟨v2,rfl,hF,hE⟩;have hK:=Hd (And.intro hF hE);clear hF hE KP y0 y1 y2 y3 y4 y5;go_wp2_with fail;refine⟨⟨i+1,_,hR.o,by first|rfl|rw[hG],D9 _ hN.o,fun x=>?p1,?p2,hK.o.1,hK.o.2⟩,?p3⟩
        case p1=>rw[hQ.o,HQ.o,D2,hD.o];simp[or_comm]
        case p2=>exact Nat.le_trans (Ep _ _) (Nat.succ_le_succ hM.o)
        case p3=>first|exact HM.o|(rw[hG];exact HM.o)
      ·have g10:(k2 == 10)=false:=(by simpa using hP);have HQ:Z9 ((!Cx qn qs (.mk k2 s2 n2 hI hH hJ))=true):=Hd (by simp[Cx,Ty.k,h9,hP]);clear h9 hP;go_wp2_with fail;refine KP.o.mono ?_;rintro e w2 ⟨v2,rfl,hF,hE⟩;have hK:=Hd (And.intro hF hE);clear hF hE KP y0 y1 y2 y3 y4 y5;go_wp2_with fail;refine⟨⟨i+1,_,hR.o,by first|rfl|rw[hG],D9 _ hN.o,fun x=>?p1,?p2,hK.o.1,hK.o.2⟩,?p3⟩
       case p1=>rw[hQ.o,HQ.o,D2,hD.o];simp[or_comm]
       case p2=>exact Nat.le_trans (Ep _ _) (Nat.succ_le_succ hM.o)
       case p3=>first|exact HM.o|(rw[hG];exact HM.o)
    ·have t1:decide ((i:Int)<(F.length:Int))=false:=(by simp;omega);have HE:Z9 (Dg (Hb l)=acc):=Hd (Hx hN.o fun x=>by rw[hD.o,List.take_of_length_le (by omega),kV.o]);have kE:=Hd (HB1.o.trans (hA.o.2.mono HB1.o.size));have hU:=Hd (kQ.o.trans (kE.o.mono kQ.o.size));have rb:=F8 aD.o kE.o;have q0:=Ch rb 0;have q1:=Ch rb 1;have q2:=Ch rb 2;have q3:=Ch rb 3;have q4:=Ch rb 4;have q5:=Ch rb 5;have z0:=Lib.frozen_of_heap rb 0;have z1:=Lib.frozen_of_heap rb 1;have z2:=Lib.frozen_of_heap rb 2;have z3:=Lib.frozen_of_heap rb 3;have z4:=Lib.frozen_of_heap rb 4;have z5:=Lib.frozen_of_heap rb 5;have kS:Z9 (acc.length<=1099511627776):=Hd (by have:=hM.o;have:=kB.o;omega);clear hi;have kY:=Hd (L5 (w:=w) hA.o.1 kF.o hA.o.2 (by have h1:=kZ.o;have h2:=HB1.o.size;omega) kS.o);rcases acc with _|⟨x,_|⟨y,d⟩⟩
     ·have kN:True:=trivial;have rs:=Bt rb (.int .i64 1) (.string ⟨#[]⟩) (.int .i64 0) (.slice none 0 0) (.slice none 0 0) (.slice none 0 0);have r0:=Ch rs 0;have r1:=Ch rs 1;have r2:=Ch rs 2;have r3:=Ch rs 3;have r4:=Ch rs 4;have r5:=Ch rs 5;clear rb rs;go_wp2_with fail;refine bodyPost_ret (v:=.agg #[.int .i64 1,.string ⟨#[]⟩,.int .i64 0,.slice none 0 0,.slice none 0 0,.slice none 0 0]) (by simp[results,Tryz.results30,go_sem,r0,r1,r2,r3,r4,r5]) rfl ?_;clear r0 r1 r2 r3 r4 r5 q0 q1 q2 q3 q4 q5 z0 z1 z2 z3 z4 z5;rw[HE.o];exact⟨[.int .i64 1,.string ⟨#[]⟩,.int .i64 0,.slice none 0 0,.slice none 0 0,.slice none 0 0],rfl,Ky _ _ 1,Bj hU.o (Nat.le_refl _) _ _ _ _ _ _⟩
     ·obtain⟨g,c3,kA,zz⟩:=Ou hA.o.1;obtain⟨k2,s2,n2,hI,hH,hJ⟩:=x;obtain⟨cs,hB,hC⟩:=zz;obtain⟨Aq,cq,Ag,cg,Ah,ch,rfl,-⟩:=hB.inv;have kG:=Hd hB;simp only[Ao]at hC kG;have y0:=hC 0 _ rfl;have y1:=hC 1 _ rfl;have y2:=hC 2 _ rfl;have y3:=hC 3 _ rfl;have y4:=hC 4 _ rfl;have y5:=hC 5 _ rfl;injection kA with kA aJ aK
      subst kA;clear hC hB;have rs:=Bt rb (.int .i64 k2) (.string s2) (.int .i64 n2) (.slice Aq hI.length cq) (.slice Ag hH.length cg) (.slice Ah hJ.length ch);have r0:=Ch rs 0;have r1:=Ch rs 1;have r2:=Ch rs 2;have r3:=Ch rs 3;have r4:=Ch rs 4;have r5:=Ch rs 5;clear rb rs;go_wp2_with fail;refine bodyPost_ret (v:=.agg #[.int .i64 k2,.string s2,.int .i64 n2,.slice Aq hI.length cq,.slice Ag hH.length cg,.slice Ah hJ.length ch]) (by simp[results,Tryz.results30,go_sem,r0,r1,r2,r3,r4,r5]) rfl ?_;clear r0 r1 r2 r3 r4 r5 q0 q1 q2 q3 q4 q5 z0 z1 z2 z3 z4 z5;rw[HE.o];exact⟨[.int .i64 k2,.string s2,.int .i64 n2,.slice Aq hI.length cq,.slice Ag hH.length cg,.slice Ah hJ.length ch],rfl,Jm kG.o kF.o hA.o.2 _ _ _ _ _ _,Bj hU.o (Nat.le_refl _) _ _ _ _ _ _⟩
     ·have kK:((x :: y :: d).length:Int)≠0:=(by simp;omega);have kL:((x :: y :: d).length:Int)≠1:=(by simp;omega);have te0:(((x :: y :: d).length:Int) == 0)=false:=(by simpa using kK);have te1:(((x :: y :: d).length:Int) == 1)=false:=(by simpa using kL);have kO:Hv (x :: y :: d)=.mk 15 Bp 0 (x :: y :: d) [] []:=rfl;clear kK kL;generalize x :: y :: d=dd at *;have kX:=Hd kO;clear kO;have rs:=Bt rb (.int .i64 15) (.string ⟨#[]⟩) (.int .i64 0) (.slice A2 dd.length c2) (.slice none 0 0) (.slice none 0 0);have r0:=Ch rs 0;have r1:=Ch rs 1;have r2:=Ch rs 2;have r3:=Ch rs 3;have r4:=Ch rs 4;have r5:=Ch rs 5;clear rb rs;go_wp2_with fail;refine bodyPost_ret (v:=.agg #[.int .i64 15,.string ⟨#[]⟩,.int .i64 0,.slice A2 dd.length c2,.slice none 0 0,.slice none 0 0]) (by simp[results,Tryz.results30,go_sem,r0,r1,r2,r3,r4,r5]) rfl ?_;clear r0 r1 r2 r3 r4 r5 q0 q1 q2 q3 q4 q5 z0 z1 z2 z3 z4 z5;rw[HE.o,kX.o];exact⟨[.int .i64 15,.string ⟨#[]⟩,.int .i64 0,.slice A2 dd.length c2,.slice none 0 0,.slice none 0 0],rfl,kY.o _ _ _ _ _ _,Bj hU.o (Nat.le_refl _) _ _ _ _ _ _⟩
theorem Cj (a:Ty) (l:List Ty):Au (a :: l)=Am a+Au l:=by simp[Au]
theorem N8 (k:Int):∀(ps:List Ty) (i:Nat),(∀p∈ps,(Bi p).length<=Am p)->(Cu k i ps).length<=Au ps
 | [],_,_=>by simp[Cu,Au]
 | p :: l,i,h=>by
  have h1:=h p List.mem_cons_self;have h2:=N8 k l (i+1) fun q hq=>h q (List.mem_cons_of_mem _ hq);rw[Cu,Cj,List.length_append]
  split
  ·simp only[List.length_nil];omega
  ·omega
theorem N7:∀(fs:Bv),(∀f∈fs,(Bi f.2.2).length<=Am f.2.2)->(Dk fs).length<=Bm fs
 | [],_=>by simp[Dk]
 | f :: l,h=>by
  have h1:=h f List.mem_cons_self;have h2:=N7 l fun q hq=>h q (List.mem_cons_of_mem _ hq);have e1:Dk (f :: l)=Bi f.2.2++Dk l:=by simp[Dk]
  have e2:Bm (f :: l)=Am f.2.2+Bm l:=by simp[Bm]
  rw[e1,e2,List.length_append];omega
theorem Ey (t:Ty):(Bi t).length<=Am t:=by
 refine Ty.ind (C:=fun t=>(Bi t).length<=Am t) (fun k t n ps fs vs hp hf _=>?_) t;rw[Gs,B0];have h1:=N8 k ps 0 hp;have h2:=N7 fs hf
 split
 ·simp only[List.length_singleton];omega
 ·rw[List.length_append];omega
theorem Hk (t:Ty):1<=Am t:=by
 obtain⟨k,s,n,ps,fs,vs⟩:=t;rw[B0];omega
theorem Hj:∀ {l:List Ty}{x:Ty},x∈l->Am x<=Au l
 | a :: l,x,h=>by
  rw[Cj];rcases List.mem_cons.1 h with rfl|h
  ·omega
  ·have:=Hj h;omega
theorem Ic:∀(l:List Ty),(∀p∈l,(C6 p).length<=Am p/\∀x∈C6 p,Am x<=Am p)->(Bk l).length<=Au l/\∀x∈Bk l,Am x<=Au l
 | [],_=>⟨by simp[Bk],fun x h=>absurd h (by simp[Bk])⟩
 | a :: l,h=>by
  obtain⟨h1,h2⟩:=h a List.mem_cons_self;obtain⟨h3,h4⟩:=Ic l fun q hq=>h q (List.mem_cons_of_mem _ hq);rw[Id,Cj,List.length_append];refine⟨by omega,fun x hx=>?_⟩;rcases List.mem_append.1 hx with hx|hx
  ·have:=h2 x hx;omega
  ·have:=h4 x hx;omega
theorem U0 (t:Ty):(C6 t).length<=Am t/\∀x∈C6 t,Am x<=Am t:=by
 refine Ty.ind (C:=fun t=>(C6 t).length<=Am t/\∀x∈C6 t,Am x<=Am t) (fun k t n ps fs vs hp _ _=>?_) t;rw[Cw]
 split
 ·obtain⟨h1,h2⟩:=Ic ps hp;rw[B0];exact⟨by omega,fun x hx=>by have:=h2 x hx;omega⟩
 ·refine⟨by have:=Hk (.mk k t n ps fs vs);simpa using this,fun x hx=>?_⟩;rw[List.mem_singleton]at hx;subst hx;exact Nat.le_refl _
theorem Jb (l:List Ty):(Bk l).length<=Au l/\∀x∈Bk l,Am x<=Au l:=Ic l fun p _=>U0 p
theorem Tb (t:Ty):Ai t=true->∀x∈C6 t,Ai x=true:=by
 refine Ty.ind (C:=fun t=>Ai t=true->∀x∈C6 t,Ai x=true) (fun k t n ps fs vs hp _ _ h x hx=>?_) t;rw[Cw]at hx
 split at hx
 ·rw[Aw,Bool.and_eq_true,List.all_eq_true]at h;unfold Bk at hx;rw[List.mem_flatten]at hx;obtain⟨m,hm,hx⟩:=hx;obtain⟨p,hA,rfl⟩:=List.mem_map.1 hm;exact hp p hA (h.2 p hA) x hx
 ·rw[List.mem_singleton]at hx;subst hx;exact h
theorem J3 {l:List Ty}(h:l.all Ai=true):∀x∈Bk l,Ai x=true:=fun x hx=>by
 unfold Bk at hx;rw[List.mem_flatten]at hx;obtain⟨m,hm,hx⟩:=hx;obtain⟨p,hA,rfl⟩:=List.mem_map.1 hm;exact Tb p (List.all_eq_true.1 h p hA) x hx
theorem Le {s:Shp}{t:Z8}{n:Int}{np nf nv:Nat}(h:Ar s t n np nf nv=true) (hs:s.hi=0) (hf:s.f=false) (hv:s.v=false):np=0/\nf=0/\nv=0/\(s.t=false->t.toList=[])/\(s.n=false->n=0):=by
 unfold Ar at h;rw[hs,hf,hv]at h;simp only[Bool.and_eq_true,Bool.not_eq_true',Bool.or_eq_false_iff,Bool.or_eq_true,decide_eq_true_eq,beq_iff_eq,Bool.not_false,Bool.true_and,decide_eq_false_iff_not]at h;obtain⟨⟨⟨⟨h1,h2⟩,h3⟩,h4⟩,h5,h6⟩:=h;refine⟨by omega,by omega,by omega,fun e=>?_,fun e=>?_⟩
 ·rw[e]at h1;simpa using h1
 ·rw[e]at h2;simpa using h2
theorem Dx {k:Int}{t:Z8}{n:Int}{ps:List Ty}{fs:Bv}{vs:Bw}(h:Ai (.mk k t n ps fs vs)=true):Ar (Ak k) t n ps.length fs.length vs.length=true:=by
 rw[Aw,Bool.and_eq_true,Bool.and_eq_true,Bool.and_eq_true]at h;exact h.1.1.2
theorem Jf {k:Int}{x:Ty}(hx:Ai x=true) (hk:x.k=k) (h1:1<=k) (h8:k<=8):x=E7 k:=by
 obtain⟨q,t,n,ps,fs,vs⟩:=x;have e:q=k:=hk;subst e;have hs:Ak q=⟨false,false,false,false,0,0,true⟩:=by unfold Ak;rw[if_pos ⟨h1,h8⟩]
 have hf:=Dx hx;rw[hs]at hf;obtain⟨a,b,c,d,e⟩:=Le hf rfl rfl rfl;have ht:t=Bp:=Ev (by have:=d rfl;rw[ByteArray.toList_eq]at this;rw[this];rfl);rw[List.eq_nil_of_length_eq_zero a,List.eq_nil_of_length_eq_zero b,List.eq_nil_of_length_eq_zero c,ht,e rfl];rfl
theorem Ps {x:Ty}(hx:Ai x=true) (hk:x.k=7\/x.k=8\/x.k=9\/x.k=10):En x=false:=by
 obtain⟨q,t,n,ps,fs,vs⟩:=x;have hk':q=7\/q=8\/q=9\/q=10:=hk;have hf:=Dx hx;have h0:ps.length=0/\fs.length=0:=by
  rcases hk' with rfl|rfl|rfl|rfl <;> (have:=Le hf rfl rfl rfl;exact⟨this.1,this.2.1⟩)
 have e:(q == 22)=false:=by rcases hk' with rfl|rfl|rfl|rfl <;> rfl
 rw[M6,List.eq_nil_of_length_eq_zero h0.1,List.eq_nil_of_length_eq_zero h0.2,e];rfl
theorem J7 {l:List Ty}(h:l.all Ai=true):Tq (Bk l):=fun x hx=>
 have hf:=J3 h x hx
 ⟨fun e=>Jf hf e (by decide) (by decide),fun e=>Jf hf e (by decide) (by decide),Ps hf⟩
