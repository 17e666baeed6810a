import Derived.Test.YtlpfpehegddcfaaGreatDoorMv18
namespace Go.Proofs.YtlpfpehegddcfaaGreatDoor
set_option maxRecDepth 100000
set_option maxHeartbeats 64000000
open Go.RowKit
theorem OutT.nil (K:Nat->Prop) (w0 w:World):OutT K w0 w (.slice none 0 0) []:=⟨[],World.ownsRow_nil _ _ _ _,fun i h=>absurd h (by simp)⟩
theorem Jfp (K:Nat->Prop) (w:World):ListF K w [] none 0:=⟨⟨0,0,⟨by simp,by decide,fun _=>rfl,fun h=>absurd h (by simp)⟩,fun i h=>absurd h (by simp)⟩⟩
theorem Jfq (K:Nat->Prop) (w:World):ListV K w [] none 0:=⟨⟨0,0,⟨by simp,by decide,fun _=>rfl,fun h=>absurd h (by simp)⟩,fun i h=>absurd h (by simp)⟩⟩
theorem Kl {K:Nat->Prop} {w w1 W:World} {A:Option Addr} {c:Nat} {l:List Ty} (h:OutT K w1 W (.slice A l.length c) l) (hlo:∀ b,K b->b<w.heap.size) (hb:Below w1.heap.size w1 W) (hg:w.heap.size<w1.heap.size) (hl:l.length<=1099511627776) (y0 y1 y2 y3 y4 y5:Value) :
  RepT (fun b=>K b\/w.heap.size<=b) ((((((W.setCell ⟨w.heap.size,0,none⟩ y0).setCell ⟨w.heap.size,1,none⟩ y1).setCell ⟨w.heap.size,2,none⟩ y2).setCell ⟨w.heap.size,3,none⟩ y3).setCell ⟨w.heap.size,4,none⟩ y4).setCell ⟨w.heap.size,5,none⟩ y5) (.mk 15 Bk 0 l [] []) [.int .i64 15,.string ⟨#[]⟩,.int .i64 0,.slice A l.length c,.slice none 0 0,.slice none 0 0]:=by
 refine RepT.of (by decide) ?_ (Jfp _ _) (Jfq _ _);rcases InT.of_out h with ⟨hv,hn⟩ | ⟨g,c1,hv,hgg,hi⟩
 ·subst hn;injection hv with h1 h2 h3
  subst h1 h3;exact⟨0,0,⟨by simp,by simp,fun _=>rfl,fun h=>absurd h (by simp)⟩,fun i h=>absurd h (by simp)⟩
 ·injection hv with h1 h2 h3
  subst h1 h3;refine⟨g,0,⟨hi.le,by omega,(fun h=>by cases h),fun _=>⟨rfl,.inr (by omega)⟩⟩,fun i hi2=>?_⟩;obtain⟨cs,h4,h5⟩:=hi.reps i _ (List.getElem?_eq_getElem hi2);refine⟨cs,fun j u hj=>?_,Ii h4 hlo hb _ _ _ _ _ _⟩;rw[Kg W y0 y1 y2 y3 y4 y5 (p:=⟨g,0+i*6+j,none⟩) (by show g≠_;omega),Nat.zero_add];exact h5 j u hj
theorem Ni {K:Nat->Prop} {w0 w:World} {v:Value} {x:Ty} (h:OutT K w0 w v [x]):∃ g c,v=.slice (some ⟨g,0,none⟩) 1 c/\∃ cs,RepT K w0 x cs/\∀ j u,cs[j]?=some u->w.cell? ⟨g,j,none⟩=some u:=by
 rcases InT.of_out h with ⟨-,hn⟩ | ⟨g,c1,hv,-,hi⟩
 ·exact absurd hn (by simp)
 ·obtain⟨cs,h4,h5⟩:=hi.reps 0 x rfl;refine⟨g,c1,hv,cs,h4,fun j u hj=>?_⟩;have:=h5 j u hj;rw[Nat.zero_mul,Nat.zero_add] at this;exact this
theorem Eh (t:Ty):∀ l,(Fc t l).length<=l.length+1
 | []=>by simp[Fc]
 | x :: l=>by
  have:=Eh t l;unfold Fc
  repeat' split
  all_goals simp only[List.length_cons] at *
  all_goals omega
theorem Hb {q:Ty->Bool} {l:List Ty} {i:Nat} (h:i<l.length):(l.take (i+1)).filter q=(l.take i).filter q++(if q l[i] then [l[i]] else []):=by
 rw[List.take_succ_eq_append_getElem h,List.filter_append];simp only[List.filter_cons,List.filter_nil]
theorem Xh {K:Nat->Prop} {w:World} {l:List Ty} {A:Option Addr} {c:Nat} (hL:ListT K w l A c) (hlo:∀ b,K b->b<w.heap.size) (hn:∀ t∈Bb l,(Aw t).length<=1099511627776) (hl:(Bb l).length+1<=1099511627776) :
  Calls Tryz.prog 30 #[.slice A l.length c] w fun e w'=>∃ cs,e=.returned (.agg cs.toArray)/\RepT (fun b=>K b\/w.heap.size<=b) w' (Fq (C0 (Gj l))) cs/\Below w.heap.size w w':=by
 obtain⟨wb,hwb⟩:∃ x,x=w.alloc (.cells #[.int .i64 0,.string ⟨#[]⟩,.int .i64 0,.slice none 0 0,.slice none 0 0,.slice none 0 0] 26):=⟨_,rfl⟩;have HWB:Hid (Below w.heap.size w wb):=Hd (by rw[hwb];exact (Below.refl _ _).alloc (Nat.le_refl _) _);have HWS:Hid (wb.heap.size=w.heap.size+1):=Hd (by rw[hwb];simp);have HRB:Hid (wb.heap[w.heap.size]?=some (.cells #[.int .i64 0,.string ⟨#[]⟩,.int .i64 0,.slice none 0 0,.slice none 0 0,.slice none 0 0] 26 (0,0))):=Hd (by rw[hwb];exact heap_alloc_new w _);have KF:=Hd (V3 l _ wb wb A c (.slice none 0 0) [] (hL.later HWB.out) (Below.refl _ _) (OutT.nil _ _ _) (by simp only[List.length_nil];omega));have HN:=Hd fun t (h:t∈Ep l)=>hn t (Gb.1 h).1;have HNL:Hid ((Ep l).length+1<=1099511627776):=Hd (by have:=Rr l;omega);have HLO:=Hd hlo;clear hL hn hl hlo;go_enter Tryz.func30,Tryz.ntmps30;go_wp2_with fail;rw[<-hwb];clear hwb;refine KF.out.mono ?_;rintro e w1 ⟨v1,rfl,ho,hb⟩;rw[List.nil_append] at ho;have HO0:=Hd ho;have HB0:=Hd hb;obtain⟨A0,c0,rfl,hs⟩:=OutT.src ho (by have:=HNL.out;omega);have HS0:=Hd hs;have KH3:=Hd (Gh (c:=c0) hs 3);have KH2:=Hd (Gh (c:=c0) hs 2);clear ho hb KF hs;go_wp2_with fail;refine KH3.out.mono ?_;rintro e w2 ⟨rfl,rfl⟩;clear KH3
 cases h3:Ce 3 (Ep l) with
 | true=>
  have KB:=Hd (L4 (c:=c0) 3 (fun b (h:K b)=>by have:=HWS.out;have:=HLO.out b h;omega) HB0.out HS0.out HN.out HNL.out);have hfe:G4 3 (Ep l)=Nn l:=by rw[Nn,h3,if_pos rfl]
  have hlen:(G4 3 (Ep l)).length<=1099511627776:=Nat.le_trans (L3 _ _) HNL.out;generalize G4 3 (Ep l)=F at *;have HFE:=Hd hfe;have HFL:=Hd hlen;clear hfe hlen h3 HN KH2;go_wp2_with fail;refine KB.out.mono ?_;rintro e w2 ⟨v2,rfl,ho2,hb2⟩;have HB1:=Hd (HB0.out.trans (hb2.mono HB0.out.size));obtain⟨A1,c1,rfl,hs2⟩:=OutT.src ho2 HFL.out;have HSRC:=Hd hs2;clear ho2 hb2 hs2 KB HO0 HB0 HS0 HNL;have KH7:=Hd (Gh (c:=c1) HSRC.out 7);have KH8:=Hd (Gh (c:=c1) HSRC.out 8);obtain⟨qn,hqn⟩:∃ q,q=Ce 7 F:=⟨_,rfl⟩;obtain⟨qs,hqs⟩:∃ q,q=Ce 8 F:=⟨_,rfl⟩;rw[<-hqn] at KH7;rw[<-hqs] at KH8;have HKE:Hid (Gj l=F.filter fun t=>!Cm qn qs t):=Hd (by rw[Gj,<-HFE.out,<-hqn,<-hqs]);clear hqn hqs;go_wp2_with fail;refine KH7.out.mono ?_;rintro e wa ⟨rfl,rfl⟩;go_wp2_with fail;refine KH8.out.mono ?_;rintro e wd ⟨rfl,rfl⟩;go_wp2_with fail;obtain⟨b,hAA,hll,hat⟩:=HSRC.out;have HAA:=Hd hAA;have HAT:=Hd hat;clear hAA hat KH7 KH8
  go_loopw [6,7] (fun ov iv wr=>∃ (i:Nat) (acc:List Ty),i<=F.length/\iv=.int .i64 i/\Lh acc/\(∀ x,x∈acc↔x∈(F.take i).filter fun t=>!Cm qn qs t)/\acc.length<=i/\OutT K wd wr ov acc/\Below wd.heap.size wd wr) (fun _ v _=>F.length - (intOf v).toNat)
  case atStart=>exact⟨0,[],by omega,rfl,List.Pairwise.nil,fun x=>by simp,Nat.le_refl _,OutT.nil _ _ _,Below.refl _ _⟩
  case round=>
   obtain⟨i,acc,hi,rfl,has,hmem,hal,ho,hb⟩:=hrel;have HAS:=Hd has;have HMEM:=Hd hmem;have HAL:=Hd hal;have HO2:=Hd (And.intro ho hb);obtain⟨vs,hvs,-⟩:=ho;obtain⟨A2,c2,rfl,-⟩:=Gk hvs;clear hvs hb has hmem hal;by_cases hin:i<F.length
   ·have t1:decide ((i:Int)<(F.length:Int))=true:=(by simp;omega);have wr2:wrap64 ((i:Int)+1)=((i+1:Nat):Int):=Ao (by omega);have HM:=Hd (Ba hin);have hA2:=HAA.out (by omega);obtain⟨cs,hrep,hcs⟩:=HAT.out i hin;have HFT:=Hd (Hb (q:=fun t=>!Cm qn qs t) hin);subst hA2;generalize F[i]=t at hrep HFT;obtain⟨k2,s2,n2,ps2,fs2,vs2⟩:=t;have KP:=Hd (Pt HO2.out.1 HAS.out (hrep.later HB1.out) HO2.out.2 (by have:=HAL.out;have:=HFL.out;omega));unfold Gf at KP;obtain⟨Aq,cq,Ag,cg,Ah,ch,rfl,-⟩:=hrep.inv;have HIn:Hid (i+1<=F.length):=Hd hin;have y0:=Aa HO2.out.2 (hcs 0 _ rfl);have y1:=Aa HO2.out.2 (hcs 1 _ rfl);have y2:=Aa HO2.out.2 (hcs 2 _ rfl);have y3:=Aa HO2.out.2 (hcs 3 _ rfl);have y4:=Aa HO2.out.2 (hcs 4 _ rfl);have y5:=Aa HO2.out.2 (hcs 5 _ rfl);rw[Nat.add_zero] at y0;simp only[Ar] at KP;clear hi hcs hrep;by_cases h9:k2=9
    ·have g9:(k2 == 9)=true:=(by simpa using h9);have g10:(k2 == 10)=false:=by subst h9;rfl
     cases qn with
     | true=>
      have HQ:Hid ((!Cm true qs (.mk k2 s2 n2 ps2 fs2 vs2))=false):=Hd (by simp[Cm,Ty.k,h9]);clear h9 KP;go_wp2_with fail;refine⟨⟨i+1,acc,HIn.out,by first | rfl | rw[wr2],HAS.out,fun x=>?p1,Nat.le_succ_of_le HAL.out,HO2.out.1,HO2.out.2⟩,?p3⟩
      case p1=>rw[HFT.out,HQ.out];simpa using HMEM.out x
      case p3=>first | exact HM.out | (rw[wr2];exact HM.out)
     | false=>
      have HQ:Hid ((!Cm false qs (.mk k2 s2 n2 ps2 fs2 vs2))=true):=Hd (by simp[Cm,Ty.k,h9]);clear h9;go_wp2_with fail;refine KP.out.mono ?_;rintro e w2 ⟨v2,rfl,ho2,hb2⟩;have HP2:=Hd (And.intro ho2 hb2);clear ho2 hb2 KP y0 y1 y2 y3 y4 y5;go_wp2_with fail;refine⟨⟨i+1,_,HIn.out,by first | rfl | rw[wr2],Dp _ HAS.out,fun x=>?p1,?p2,HP2.out.1,HP2.out.2⟩,?p3⟩
      case p1=>rw[HFT.out,HQ.out,Dk,HMEM.out];simp[or_comm]
      case p2=>exact Nat.le_trans (Eh _ _) (Nat.succ_le_succ HAL.out)
      case p3=>first | exact HM.out | (rw[wr2];exact HM.out)
    ·have g9:(k2 == 9)=false:=(by simpa using h9);by_cases h10:k2=10
     ·have g10:(k2 == 10)=true:=by simpa using h10
      cases qs with
      | true=>
       have HQ:Hid ((!Cm qn true (.mk k2 s2 n2 ps2 fs2 vs2))=false):=Hd (by simp[Cm,Ty.k,h10]);clear h9 h10 KP;go_wp2_with fail;refine⟨⟨i+1,acc,HIn.out,by first | rfl | rw[wr2],HAS.out,fun x=>?p1,Nat.le_succ_of_le HAL.out,HO2.out.1,HO2.out.2⟩,?p3⟩
       case p1=>rw[HFT.out,HQ.out];simpa using HMEM.out x
       case p3=>first | exact HM.out | (rw[wr2];exact HM.out)
      | false=>
       have HQ:Hid ((!Cm qn false (.mk k2 s2 n2 ps2 fs2 vs2))=true):=Hd (by simp[Cm,Ty.k,h9]);clear h9 h10;go_wp2_with fail;refine KP.out.mono ?_;rintro e w2 ⟨v2,rfl,ho2,hb2⟩;have HP2:=Hd (And.intro ho2 hb2);clear ho2 hb2 KP y0 y1 y2 y3 y4 y5;go_wp2_with fail;refine⟨⟨i+1,_,HIn.out,by first | rfl | rw[wr2],Dp _ HAS.out,fun x=>?p1,?p2,HP2.out.1,HP2.out.2⟩,?p3⟩
       case p1=>rw[HFT.out,HQ.out,Dk,HMEM.out];simp[or_comm]
       case p2=>exact Nat.le_trans (Eh _ _) (Nat.succ_le_succ HAL.out)
       case p3=>first | exact HM.out | (rw[wr2];exact HM.out)
     ·have g10:(k2 == 10)=false:=(by simpa using h10);have HQ:Hid ((!Cm qn qs (.mk k2 s2 n2 ps2 fs2 vs2))=true):=Hd (by simp[Cm,Ty.k,h9,h10]);clear h9 h10;go_wp2_with fail;refine KP.out.mono ?_;rintro e w2 ⟨v2,rfl,ho2,hb2⟩;have HP2:=Hd (And.intro ho2 hb2);clear ho2 hb2 KP y0 y1 y2 y3 y4 y5;go_wp2_with fail;refine⟨⟨i+1,_,HIn.out,by first | rfl | rw[wr2],Dp _ HAS.out,fun x=>?p1,?p2,HP2.out.1,HP2.out.2⟩,?p3⟩
      case p1=>rw[HFT.out,HQ.out,Dk,HMEM.out];simp[or_comm]
      case p2=>exact Nat.le_trans (Eh _ _) (Nat.succ_le_succ HAL.out)
      case p3=>first | exact HM.out | (rw[wr2];exact HM.out)
   ·have t1:decide ((i:Int)<(F.length:Int))=false:=(by simp;omega);have HE:Hid (C0 (Gj l)=acc):=Hd (G3 HAS.out fun x=>by rw[HMEM.out,List.take_of_length_le (by omega),HKE.out]);have HBT:=Hd (HB1.out.trans (HO2.out.2.mono HB1.out.size));have HBE:=Hd (HWB.out.trans (HBT.out.mono HWB.out.size));have rb:=Fb HRB.out HBT.out;have q0:=Ch rb 0;have q1:=Ch rb 1;have q2:=Ch rb 2;have q3:=Ch rb 3;have q4:=Ch rb 4;have q5:=Ch rb 5;have z0:=Lib.frozen_of_heap rb 0;have z1:=Lib.frozen_of_heap rb 1;have z2:=Lib.frozen_of_heap rb 2;have z3:=Lib.frozen_of_heap rb 3;have z4:=Lib.frozen_of_heap rb 4;have z5:=Lib.frozen_of_heap rb 5;have HAC:Hid (acc.length<=1099511627776):=Hd (by have:=HAL.out;have:=HFL.out;omega);clear hi;have HWI:=Hd (Kl (w:=w) HO2.out.1 HLO.out HO2.out.2 (by have h1:=HWS.out;have h2:=HB1.out.size;omega) HAC.out);rcases acc with _ | ⟨x,_ | ⟨y,d⟩⟩
    ·have hnone:True:=trivial;have rs:=B5 rb (.int .i64 1) (.string ⟨#[]⟩) (.int .i64 0) (.slice none 0 0) (.slice none 0 0) (.slice none 0 0);have r0:=Ch rs 0;have r1:=Ch rs 1;have r2:=Ch rs 2;have r3:=Ch rs 3;have r4:=Ch rs 4;have r5:=Ch rs 5;clear rb rs;go_wp2_with fail;refine bodyPost_ret (v:=.agg #[.int .i64 1,.string ⟨#[]⟩,.int .i64 0,.slice none 0 0,.slice none 0 0,.slice none 0 0]) (by simp[results,Tryz.results30,go_sem,r0,r1,r2,r3,r4,r5]) rfl ?_;clear r0 r1 r2 r3 r4 r5 q0 q1 q2 q3 q4 q5 z0 z1 z2 z3 z4 z5;rw[HE.out];exact⟨[.int .i64 1,.string ⟨#[]⟩,.int .i64 0,.slice none 0 0,.slice none 0 0,.slice none 0 0],rfl,Jl _ _ 1,Cb HBE.out (Nat.le_refl _) _ _ _ _ _ _⟩
    ·obtain⟨g,c3,hv3,zz⟩:=Ni HO2.out.1;obtain⟨k2,s2,n2,ps2,fs2,vs2⟩:=x;obtain⟨cs,hrep,hcs⟩:=zz;obtain⟨Aq,cq,Ag,cg,Ah,ch,rfl,-⟩:=hrep.inv;have HRW:=Hd hrep;simp only[Ar] at hcs HRW;have y0:=hcs 0 _ rfl;have y1:=hcs 1 _ rfl;have y2:=hcs 2 _ rfl;have y3:=hcs 3 _ rfl;have y4:=hcs 4 _ rfl;have y5:=hcs 5 _ rfl;injection hv3 with hv3 hv4 hv5
     subst hv3;clear hcs hrep;have rs:=B5 rb (.int .i64 k2) (.string s2) (.int .i64 n2) (.slice Aq ps2.length cq) (.slice Ag fs2.length cg) (.slice Ah vs2.length ch);have r0:=Ch rs 0;have r1:=Ch rs 1;have r2:=Ch rs 2;have r3:=Ch rs 3;have r4:=Ch rs 4;have r5:=Ch rs 5;clear rb rs;go_wp2_with fail;refine bodyPost_ret (v:=.agg #[.int .i64 k2,.string s2,.int .i64 n2,.slice Aq ps2.length cq,.slice Ag fs2.length cg,.slice Ah vs2.length ch]) (by simp[results,Tryz.results30,go_sem,r0,r1,r2,r3,r4,r5]) rfl ?_;clear r0 r1 r2 r3 r4 r5 q0 q1 q2 q3 q4 q5 z0 z1 z2 z3 z4 z5;rw[HE.out];exact⟨[.int .i64 k2,.string s2,.int .i64 n2,.slice Aq ps2.length cq,.slice Ag fs2.length cg,.slice Ah vs2.length ch],rfl,Ii HRW.out HLO.out HO2.out.2 _ _ _ _ _ _,Cb HBE.out (Nat.le_refl _) _ _ _ _ _ _⟩
    ·have hd0:((x :: y :: d).length:Int)≠0:=(by simp;omega);have hd1:((x :: y :: d).length:Int)≠1:=(by simp;omega);have te0:(((x :: y :: d).length:Int) == 0)=false:=(by simpa using hd0);have te1:(((x :: y :: d).length:Int) == 1)=false:=(by simpa using hd1);have hun:Fq (x :: y :: d)=.mk 15 Bk 0 (x :: y :: d) [] []:=rfl;clear hd0 hd1;generalize x :: y :: d=dd at *;have HUN:=Hd hun;clear hun;have rs:=B5 rb (.int .i64 15) (.string ⟨#[]⟩) (.int .i64 0) (.slice A2 dd.length c2) (.slice none 0 0) (.slice none 0 0);have r0:=Ch rs 0;have r1:=Ch rs 1;have r2:=Ch rs 2;have r3:=Ch rs 3;have r4:=Ch rs 4;have r5:=Ch rs 5;clear rb rs;go_wp2_with fail;refine bodyPost_ret (v:=.agg #[.int .i64 15,.string ⟨#[]⟩,.int .i64 0,.slice A2 dd.length c2,.slice none 0 0,.slice none 0 0]) (by simp[results,Tryz.results30,go_sem,r0,r1,r2,r3,r4,r5]) rfl ?_;clear r0 r1 r2 r3 r4 r5 q0 q1 q2 q3 q4 q5 z0 z1 z2 z3 z4 z5;rw[HE.out,HUN.out];exact⟨[.int .i64 15,.string ⟨#[]⟩,.int .i64 0,.slice A2 dd.length c2,.slice none 0 0,.slice none 0 0],rfl,HWI.out _ _ _ _ _ _,Cb HBE.out (Nat.le_refl _) _ _ _ _ _ _⟩
 | false=>
  go_wp2_with fail;refine KH2.out.mono ?_;rintro e w3 ⟨rfl,rfl⟩;clear KH2
  cases h2:Ce 2 (Ep l) with
  | true=>
   have KB:=Hd (L4 (c:=c0) 2 (fun b (h:K b)=>by have:=HWS.out;have:=HLO.out b h;omega) HB0.out HS0.out HN.out HNL.out);have hfe:G4 2 (Ep l)=Nn l:=by rw[Nn,h3,h2,if_neg (by decide),if_pos rfl]
   have hlen:(G4 2 (Ep l)).length<=1099511627776:=Nat.le_trans (L3 _ _) HNL.out;generalize G4 2 (Ep l)=F at *;have HFE:=Hd hfe;have HFL:=Hd hlen;clear hfe hlen h3 h2 HN;go_wp2_with fail;refine KB.out.mono ?_;rintro e w2 ⟨v2,rfl,ho2,hb2⟩;have HB1:=Hd (HB0.out.trans (hb2.mono HB0.out.size));obtain⟨A1,c1,rfl,hs2⟩:=OutT.src ho2 HFL.out;have HSRC:=Hd hs2;clear ho2 hb2 hs2 KB HO0 HB0 HS0 HNL;have KH7:=Hd (Gh (c:=c1) HSRC.out 7);have KH8:=Hd (Gh (c:=c1) HSRC.out 8);obtain⟨qn,hqn⟩:∃ q,q=Ce 7 F:=⟨_,rfl⟩;obtain⟨qs,hqs⟩:∃ q,q=Ce 8 F:=⟨_,rfl⟩;rw[<-hqn] at KH7;rw[<-hqs] at KH8;have HKE:Hid (Gj l=F.filter fun t=>!Cm qn qs t):=Hd (by rw[Gj,<-HFE.out,<-hqn,<-hqs]);clear hqn hqs;go_wp2_with fail;refine KH7.out.mono ?_;rintro e wa ⟨rfl,rfl⟩;go_wp2_with fail;refine KH8.out.mono ?_;rintro e wd ⟨rfl,rfl⟩;go_wp2_with fail;obtain⟨b,hAA,hll,hat⟩:=HSRC.out;have HAA:=Hd hAA;have HAT:=Hd hat;clear hAA hat KH7 KH8
   go_loopw [6,7] (fun ov iv wr=>∃ (i:Nat) (acc:List Ty),i<=F.length/\iv=.int .i64 i/\Lh acc/\(∀ x,x∈acc↔x∈(F.take i).filter fun t=>!Cm qn qs t)/\acc.length<=i/\OutT K wd wr ov acc/\Below wd.heap.size wd wr) (fun _ v _=>F.length - (intOf v).toNat)
   case atStart=>exact⟨0,[],by omega,rfl,List.Pairwise.nil,fun x=>by simp,Nat.le_refl _,OutT.nil _ _ _,Below.refl _ _⟩
   case round=>
    obtain⟨i,acc,hi,rfl,has,hmem,hal,ho,hb⟩:=hrel;have HAS:=Hd has;have HMEM:=Hd hmem;have HAL:=Hd hal;have HO2:=Hd (And.intro ho hb);obtain⟨vs,hvs,-⟩:=ho;obtain⟨A2,c2,rfl,-⟩:=Gk hvs;clear hvs hb has hmem hal;by_cases hin:i<F.length
    ·have t1:decide ((i:Int)<(F.length:Int))=true:=(by simp;omega);have wr2:wrap64 ((i:Int)+1)=((i+1:Nat):Int):=Ao (by omega);have HM:=Hd (Ba hin);have hA2:=HAA.out (by omega);obtain⟨cs,hrep,hcs⟩:=HAT.out i hin;have HFT:=Hd (Hb (q:=fun t=>!Cm qn qs t) hin);subst hA2;generalize F[i]=t at hrep HFT;obtain⟨k2,s2,n2,ps2,fs2,vs2⟩:=t;have KP:=Hd (Pt HO2.out.1 HAS.out (hrep.later HB1.out) HO2.out.2 (by have:=HAL.out;have:=HFL.out;omega));unfold Gf at KP;obtain⟨Aq,cq,Ag,cg,Ah,ch,rfl,-⟩:=hrep.inv;have HIn:Hid (i+1<=F.length):=Hd hin;have y0:=Aa HO2.out.2 (hcs 0 _ rfl);have y1:=Aa HO2.out.2 (hcs 1 _ rfl);have y2:=Aa HO2.out.2 (hcs 2 _ rfl);have y3:=Aa HO2.out.2 (hcs 3 _ rfl);have y4:=Aa HO2.out.2 (hcs 4 _ rfl);have y5:=Aa HO2.out.2 (hcs 5 _ rfl);rw[Nat.add_zero] at y0;simp only[Ar] at KP;clear hi hcs hrep;by_cases h9:k2=9
     ·have g9:(k2 == 9)=true:=(by simpa using h9);have g10:(k2 == 10)=false:=by subst h9;rfl
      cases qn with
      | true=>
       have HQ:Hid ((!Cm true qs (.mk k2 s2 n2 ps2 fs2 vs2))=false):=Hd (by simp[Cm,Ty.k,h9]);clear h9 KP;go_wp2_with fail;refine⟨⟨i+1,acc,HIn.out,by first | rfl | rw[wr2],HAS.out,fun x=>?p1,Nat.le_succ_of_le HAL.out,HO2.out.1,HO2.out.2⟩,?p3⟩
       case p1=>rw[HFT.out,HQ.out];simpa using HMEM.out x
       case p3=>first | exact HM.out | (rw[wr2];exact HM.out)
      | false=>
       have HQ:Hid ((!Cm false qs (.mk k2 s2 n2 ps2 fs2 vs2))=true):=Hd (by simp[Cm,Ty.k,h9]);clear h9;go_wp2_with fail;refine KP.out.mono ?_;rintro e w2 ⟨v2,rfl,ho2,hb2⟩;have HP2:=Hd (And.intro ho2 hb2);clear ho2 hb2 KP y0 y1 y2 y3 y4 y5;go_wp2_with fail;refine⟨⟨i+1,_,HIn.out,by first | rfl | rw[wr2],Dp _ HAS.out,fun x=>?p1,?p2,HP2.out.1,HP2.out.2⟩,?p3⟩
       case p1=>rw[HFT.out,HQ.out,Dk,HMEM.out];simp[or_comm]
       case p2=>exact Nat.le_trans (Eh _ _) (Nat.succ_le_succ HAL.out)
       case p3=>first | exact HM.out | (rw[wr2];exact HM.out)
     ·have g9:(k2 == 9)=false:=(by simpa using h9);by_cases h10:k2=10
      ·have g10:(k2 == 10)=true:=by simpa using h10
       cases qs with
       | true=>
        have HQ:Hid ((!Cm qn true (.mk k2 s2 n2 ps2 fs2 vs2))=false):=Hd (by simp[Cm,Ty.k,h10]);clear h9 h10 KP;go_wp2_with fail;refine⟨⟨i+1,acc,HIn.out,by first | rfl | rw[wr2],HAS.out,fun x=>?p1,Nat.le_succ_of_le HAL.out,HO2.out.1,HO2.out.2⟩,?p3⟩
        case p1=>rw[HFT.out,HQ.out];simpa using HMEM.out x
        case p3=>first | exact HM.out | (rw[wr2];exact HM.out)
       | false=>
        have HQ:Hid ((!Cm qn false (.mk k2 s2 n2 ps2 fs2 vs2))=true):=Hd (by simp[Cm,Ty.k,h9]);clear h9 h10;go_wp2_with fail;refine KP.out.mono ?_;rintro e w2 ⟨v2,rfl,ho2,hb2⟩;have HP2:=Hd (And.intro ho2 hb2);clear ho2 hb2 KP y0 y1 y2 y3 y4 y5;go_wp2_with fail;refine⟨⟨i+1,_,HIn.out,by first | rfl | rw[wr2],Dp _ HAS.out,fun x=>?p1,?p2,HP2.out.1,HP2.out.2⟩,?p3⟩
        case p1=>rw[HFT.out,HQ.out,Dk,HMEM.out];simp[or_comm]
        case p2=>exact Nat.le_trans (Eh _ _) (Nat.succ_le_succ HAL.out)
        case p3=>first | exact HM.out | (rw[wr2];exact HM.out)
      ·have g10:(k2 == 10)=false:=(by simpa using h10);have HQ:Hid ((!Cm qn qs (.mk k2 s2 n2 ps2 fs2 vs2))=true):=Hd (by simp[Cm,Ty.k,h9,h10]);clear h9 h10;go_wp2_with fail;refine KP.out.mono ?_;rintro e w2 ⟨v2,rfl,ho2,hb2⟩;have HP2:=Hd (And.intro ho2 hb2);clear ho2 hb2 KP y0 y1 y2 y3 y4 y5;go_wp2_with fail;refine⟨⟨i+1,_,HIn.out,by first | rfl | rw[wr2],Dp _ HAS.out,fun x=>?p1,?p2,HP2.out.1,HP2.out.2⟩,?p3⟩
       case p1=>rw[HFT.out,HQ.out,Dk,HMEM.out];simp[or_comm]
       case p2=>exact Nat.le_trans (Eh _ _) (Nat.succ_le_succ HAL.out)
       case p3=>first | exact HM.out | (rw[wr2];exact HM.out)
    ·have t1:decide ((i:Int)<(F.length:Int))=false:=(by simp;omega);have HE:Hid (C0 (Gj l)=acc):=Hd (G3 HAS.out fun x=>by rw[HMEM.out,List.take_of_length_le (by omega),HKE.out]);have HBT:=Hd (HB1.out.trans (HO2.out.2.mono HB1.out.size));have HBE:=Hd (HWB.out.trans (HBT.out.mono HWB.out.size));have rb:=Fb HRB.out HBT.out;have q0:=Ch rb 0;have q1:=Ch rb 1;have q2:=Ch rb 2;have q3:=Ch rb 3;have q4:=Ch rb 4;have q5:=Ch rb 5;have z0:=Lib.frozen_of_heap rb 0;have z1:=Lib.frozen_of_heap rb 1;have z2:=Lib.frozen_of_heap rb 2;have z3:=Lib.frozen_of_heap rb 3;have z4:=Lib.frozen_of_heap rb 4;have z5:=Lib.frozen_of_heap rb 5;have HAC:Hid (acc.length<=1099511627776):=Hd (by have:=HAL.out;have:=HFL.out;omega);clear hi;have HWI:=Hd (Kl (w:=w) HO2.out.1 HLO.out HO2.out.2 (by have h1:=HWS.out;have h2:=HB1.out.size;omega) HAC.out);rcases acc with _ | ⟨x,_ | ⟨y,d⟩⟩
     ·have hnone:True:=trivial;have rs:=B5 rb (.int .i64 1) (.string ⟨#[]⟩) (.int .i64 0) (.slice none 0 0) (.slice none 0 0) (.slice none 0 0);have r0:=Ch rs 0;have r1:=Ch rs 1;have r2:=Ch rs 2;have r3:=Ch rs 3;have r4:=Ch rs 4;have r5:=Ch rs 5;clear rb rs;go_wp2_with fail;refine bodyPost_ret (v:=.agg #[.int .i64 1,.string ⟨#[]⟩,.int .i64 0,.slice none 0 0,.slice none 0 0,.slice none 0 0]) (by simp[results,Tryz.results30,go_sem,r0,r1,r2,r3,r4,r5]) rfl ?_;clear r0 r1 r2 r3 r4 r5 q0 q1 q2 q3 q4 q5 z0 z1 z2 z3 z4 z5;rw[HE.out];exact⟨[.int .i64 1,.string ⟨#[]⟩,.int .i64 0,.slice none 0 0,.slice none 0 0,.slice none 0 0],rfl,Jl _ _ 1,Cb HBE.out (Nat.le_refl _) _ _ _ _ _ _⟩
     ·obtain⟨g,c3,hv3,zz⟩:=Ni HO2.out.1;obtain⟨k2,s2,n2,ps2,fs2,vs2⟩:=x;obtain⟨cs,hrep,hcs⟩:=zz;obtain⟨Aq,cq,Ag,cg,Ah,ch,rfl,-⟩:=hrep.inv;have HRW:=Hd hrep;simp only[Ar] at hcs HRW;have y0:=hcs 0 _ rfl;have y1:=hcs 1 _ rfl;have y2:=hcs 2 _ rfl;have y3:=hcs 3 _ rfl;have y4:=hcs 4 _ rfl;have y5:=hcs 5 _ rfl;injection hv3 with hv3 hv4 hv5
      subst hv3;clear hcs hrep;have rs:=B5 rb (.int .i64 k2) (.string s2) (.int .i64 n2) (.slice Aq ps2.length cq) (.slice Ag fs2.length cg) (.slice Ah vs2.length ch);have r0:=Ch rs 0;have r1:=Ch rs 1;have r2:=Ch rs 2;have r3:=Ch rs 3;have r4:=Ch rs 4;have r5:=Ch rs 5;clear rb rs;go_wp2_with fail;refine bodyPost_ret (v:=.agg #[.int .i64 k2,.string s2,.int .i64 n2,.slice Aq ps2.length cq,.slice Ag fs2.length cg,.slice Ah vs2.length ch]) (by simp[results,Tryz.results30,go_sem,r0,r1,r2,r3,r4,r5]) rfl ?_;clear r0 r1 r2 r3 r4 r5 q0 q1 q2 q3 q4 q5 z0 z1 z2 z3 z4 z5;rw[HE.out];exact⟨[.int .i64 k2,.string s2,.int .i64 n2,.slice Aq ps2.length cq,.slice Ag fs2.length cg,.slice Ah vs2.length ch],rfl,Ii HRW.out HLO.out HO2.out.2 _ _ _ _ _ _,Cb HBE.out (Nat.le_refl _) _ _ _ _ _ _⟩
     ·have hd0:((x :: y :: d).length:Int)≠0:=(by simp;omega);have hd1:((x :: y :: d).length:Int)≠1:=(by simp;omega);have te0:(((x :: y :: d).length:Int) == 0)=false:=(by simpa using hd0);have te1:(((x :: y :: d).length:Int) == 1)=false:=(by simpa using hd1);have hun:Fq (x :: y :: d)=.mk 15 Bk 0 (x :: y :: d) [] []:=rfl;clear hd0 hd1;generalize x :: y :: d=dd at *;have HUN:=Hd hun;clear hun;have rs:=B5 rb (.int .i64 15) (.string ⟨#[]⟩) (.int .i64 0) (.slice A2 dd.length c2) (.slice none 0 0) (.slice none 0 0);have r0:=Ch rs 0;have r1:=Ch rs 1;have r2:=Ch rs 2;have r3:=Ch rs 3;have r4:=Ch rs 4;have r5:=Ch rs 5;clear rb rs;go_wp2_with fail;refine bodyPost_ret (v:=.agg #[.int .i64 15,.string ⟨#[]⟩,.int .i64 0,.slice A2 dd.length c2,.slice none 0 0,.slice none 0 0]) (by simp[results,Tryz.results30,go_sem,r0,r1,r2,r3,r4,r5]) rfl ?_;clear r0 r1 r2 r3 r4 r5 q0 q1 q2 q3 q4 q5 z0 z1 z2 z3 z4 z5;rw[HE.out,HUN.out];exact⟨[.int .i64 15,.string ⟨#[]⟩,.int .i64 0,.slice A2 dd.length c2,.slice none 0 0,.slice none 0 0],rfl,HWI.out _ _ _ _ _ _,Cb HBE.out (Nat.le_refl _) _ _ _ _ _ _⟩
  | false=>
   have hfe:Ep l=Nn l:=by rw[Nn,h3,h2,if_neg (by decide),if_neg (by decide)]
   have HFL:Hid ((Ep l).length<=1099511627776):=Hd (by have:=HNL.out;omega);generalize Ep l=F at *;have HFE:=Hd hfe;have HB1:=HB0;have HSRC:=HS0;have A1:=A0;clear hfe h3 h2 HN HNL A1;have KH7:=Hd (Gh (c:=c0) HSRC.out 7);have KH8:=Hd (Gh (c:=c0) HSRC.out 8);obtain⟨qn,hqn⟩:∃ q,q=Ce 7 F:=⟨_,rfl⟩;obtain⟨qs,hqs⟩:∃ q,q=Ce 8 F:=⟨_,rfl⟩;rw[<-hqn] at KH7;rw[<-hqs] at KH8;have HKE:Hid (Gj l=F.filter fun t=>!Cm qn qs t):=Hd (by rw[Gj,<-HFE.out,<-hqn,<-hqs]);clear hqn hqs;go_wp2_with fail;refine KH7.out.mono ?_;rintro e wa ⟨rfl,rfl⟩;go_wp2_with fail;refine KH8.out.mono ?_;rintro e wd ⟨rfl,rfl⟩;go_wp2_with fail;obtain⟨b,hAA,hll,hat⟩:=HSRC.out;have HAA:=Hd hAA;have HAT:=Hd hat;clear hAA hat KH7 KH8
   go_loopw [6,7] (fun ov iv wr=>∃ (i:Nat) (acc:List Ty),i<=F.length/\iv=.int .i64 i/\Lh acc/\(∀ x,x∈acc↔x∈(F.take i).filter fun t=>!Cm qn qs t)/\acc.length<=i/\OutT K wd wr ov acc/\Below wd.heap.size wd wr) (fun _ v _=>F.length - (intOf v).toNat)
   case atStart=>exact⟨0,[],by omega,rfl,List.Pairwise.nil,fun x=>by simp,Nat.le_refl _,OutT.nil _ _ _,Below.refl _ _⟩
   case round=>
    obtain⟨i,acc,hi,rfl,has,hmem,hal,ho,hb⟩:=hrel;have HAS:=Hd has;have HMEM:=Hd hmem;have HAL:=Hd hal;have HO2:=Hd (And.intro ho hb);obtain⟨vs,hvs,-⟩:=ho;obtain⟨A2,c2,rfl,-⟩:=Gk hvs;clear hvs hb has hmem hal;by_cases hin:i<F.length
    ·have t1:decide ((i:Int)<(F.length:Int))=true:=(by simp;omega);have wr2:wrap64 ((i:Int)+1)=((i+1:Nat):Int):=Ao (by omega);have HM:=Hd (Ba hin);have hA2:=HAA.out (by omega);obtain⟨cs,hrep,hcs⟩:=HAT.out i hin;have HFT:=Hd (Hb (q:=fun t=>!Cm qn qs t) hin);subst hA2;generalize F[i]=t at hrep HFT;obtain⟨k2,s2,n2,ps2,fs2,vs2⟩:=t;have KP:=Hd (Pt HO2.out.1 HAS.out (hrep.later HB1.out) HO2.out.2 (by have:=HAL.out;have:=HFL.out;omega));unfold Gf at KP;obtain⟨Aq,cq,Ag,cg,Ah,ch,rfl,-⟩:=hrep.inv;have HIn:Hid (i+1<=F.length):=Hd hin;have y0:=Aa HO2.out.2 (hcs 0 _ rfl);have y1:=Aa HO2.out.2 (hcs 1 _ rfl);have y2:=Aa HO2.out.2 (hcs 2 _ rfl);have y3:=Aa HO2.out.2 (hcs 3 _ rfl);have y4:=Aa HO2.out.2 (hcs 4 _ rfl);have y5:=Aa HO2.out.2 (hcs 5 _ rfl);rw[Nat.add_zero] at y0;simp only[Ar] at KP;clear hi hcs hrep;by_cases h9:k2=9
     ·have g9:(k2 == 9)=true:=(by simpa using h9);have g10:(k2 == 10)=false:=by subst h9;rfl
      cases qn with
      | true=>
       have HQ:Hid ((!Cm true qs (.mk k2 s2 n2 ps2 fs2 vs2))=false):=Hd (by simp[Cm,Ty.k,h9]);clear h9 KP;go_wp2_with fail;refine⟨⟨i+1,acc,HIn.out,by first | rfl | rw[wr2],HAS.out,fun x=>?p1,Nat.le_succ_of_le HAL.out,HO2.out.1,HO2.out.2⟩,?p3⟩
       case p1=>rw[HFT.out,HQ.out];simpa using HMEM.out x
       case p3=>first | exact HM.out | (rw[wr2];exact HM.out)
      | false=>
       have HQ:Hid ((!Cm false qs (.mk k2 s2 n2 ps2 fs2 vs2))=true):=Hd (by simp[Cm,Ty.k,h9]);clear h9;go_wp2_with fail;refine KP.out.mono ?_;rintro e w2 ⟨v2,rfl,ho2,hb2⟩;have HP2:=Hd (And.intro ho2 hb2);clear ho2 hb2 KP y0 y1 y2 y3 y4 y5;go_wp2_with fail;refine⟨⟨i+1,_,HIn.out,by first | rfl | rw[wr2],Dp _ HAS.out,fun x=>?p1,?p2,HP2.out.1,HP2.out.2⟩,?p3⟩
       case p1=>rw[HFT.out,HQ.out,Dk,HMEM.out];simp[or_comm]
       case p2=>exact Nat.le_trans (Eh _ _) (Nat.succ_le_succ HAL.out)
       case p3=>first | exact HM.out | (rw[wr2];exact HM.out)
     ·have g9:(k2 == 9)=false:=(by simpa using h9);by_cases h10:k2=10
      ·have g10:(k2 == 10)=true:=by simpa using h10
       cases qs with
       | true=>
        have HQ:Hid ((!Cm qn true (.mk k2 s2 n2 ps2 fs2 vs2))=false):=Hd (by simp[Cm,Ty.k,h10]);clear h9 h10 KP;go_wp2_with fail;refine⟨⟨i+1,acc,HIn.out,by first | rfl | rw[wr2],HAS.out,fun x=>?p1,Nat.le_succ_of_le HAL.out,HO2.out.1,HO2.out.2⟩,?p3⟩
        case p1=>rw[HFT.out,HQ.out];simpa using HMEM.out x
        case p3=>first | exact HM.out | (rw[wr2];exact HM.out)
       | false=>
        have HQ:Hid ((!Cm qn false (.mk k2 s2 n2 ps2 fs2 vs2))=true):=Hd (by simp[Cm,Ty.k,h9]);clear h9 h10;go_wp2_with fail;refine KP.out.mono ?_;rintro e w2 ⟨v2,rfl,ho2,hb2⟩;have HP2:=Hd (And.intro ho2 hb2);clear ho2 hb2 KP y0 y1 y2 y3 y4 y5;go_wp2_with fail;refine⟨⟨i+1,_,HIn.out,by first | rfl | rw[wr2],Dp _ HAS.out,fun x=>?p1,?p2,HP2.out.1,HP2.out.2⟩,?p3⟩
        case p1=>rw[HFT.out,HQ.out,Dk,HMEM.out];simp[or_comm]
        case p2=>exact Nat.le_trans (Eh _ _) (Nat.succ_le_succ HAL.out)
        case p3=>first | exact HM.out | (rw[wr2];exact HM.out)
      ·have g10:(k2 == 10)=false:=(by simpa using h10);have HQ:Hid ((!Cm qn qs (.mk k2 s2 n2 ps2 fs2 vs2))=true):=Hd (by simp[Cm,Ty.k,h9,h10]);clear h9 h10;go_wp2_with fail;refine KP.out.mono ?_;rintro e w2 ⟨v2,rfl,ho2,hb2⟩;have HP2:=Hd (And.intro ho2 hb2);clear ho2 hb2 KP y0 y1 y2 y3 y4 y5;go_wp2_with fail;refine⟨⟨i+1,_,HIn.out,by first | rfl | rw[wr2],Dp _ HAS.out,fun x=>?p1,?p2,HP2.out.1,HP2.out.2⟩,?p3⟩
       case p1=>rw[HFT.out,HQ.out,Dk,HMEM.out];simp[or_comm]
       case p2=>exact Nat.le_trans (Eh _ _) (Nat.succ_le_succ HAL.out)
       case p3=>first | exact HM.out | (rw[wr2];exact HM.out)
    ·have t1:decide ((i:Int)<(F.length:Int))=false:=(by simp;omega);have HE:Hid (C0 (Gj l)=acc):=Hd (G3 HAS.out fun x=>by rw[HMEM.out,List.take_of_length_le (by omega),HKE.out]);have HBT:=Hd (HB1.out.trans (HO2.out.2.mono HB1.out.size));have HBE:=Hd (HWB.out.trans (HBT.out.mono HWB.out.size));have rb:=Fb HRB.out HBT.out;have q0:=Ch rb 0;have q1:=Ch rb 1;have q2:=Ch rb 2;have q3:=Ch rb 3;have q4:=Ch rb 4;have q5:=Ch rb 5;have z0:=Lib.frozen_of_heap rb 0;have z1:=Lib.frozen_of_heap rb 1;have z2:=Lib.frozen_of_heap rb 2;have z3:=Lib.frozen_of_heap rb 3;have z4:=Lib.frozen_of_heap rb 4;have z5:=Lib.frozen_of_heap rb 5;have HAC:Hid (acc.length<=1099511627776):=Hd (by have:=HAL.out;have:=HFL.out;omega);clear hi;have HWI:=Hd (Kl (w:=w) HO2.out.1 HLO.out HO2.out.2 (by have h1:=HWS.out;have h2:=HB1.out.size;omega) HAC.out);rcases acc with _ | ⟨x,_ | ⟨y,d⟩⟩
     ·have hnone:True:=trivial;have rs:=B5 rb (.int .i64 1) (.string ⟨#[]⟩) (.int .i64 0) (.slice none 0 0) (.slice none 0 0) (.slice none 0 0);have r0:=Ch rs 0;have r1:=Ch rs 1;have r2:=Ch rs 2;have r3:=Ch rs 3;have r4:=Ch rs 4;have r5:=Ch rs 5;clear rb rs;go_wp2_with fail;refine bodyPost_ret (v:=.agg #[.int .i64 1,.string ⟨#[]⟩,.int .i64 0,.slice none 0 0,.slice none 0 0,.slice none 0 0]) (by simp[results,Tryz.results30,go_sem,r0,r1,r2,r3,r4,r5]) rfl ?_;clear r0 r1 r2 r3 r4 r5 q0 q1 q2 q3 q4 q5 z0 z1 z2 z3 z4 z5;rw[HE.out];exact⟨[.int .i64 1,.string ⟨#[]⟩,.int .i64 0,.slice none 0 0,.slice none 0 0,.slice none 0 0],rfl,Jl _ _ 1,Cb HBE.out (Nat.le_refl _) _ _ _ _ _ _⟩
     ·obtain⟨g,c3,hv3,zz⟩:=Ni HO2.out.1;obtain⟨k2,s2,n2,ps2,fs2,vs2⟩:=x;obtain⟨cs,hrep,hcs⟩:=zz;obtain⟨Aq,cq,Ag,cg,Ah,ch,rfl,-⟩:=hrep.inv;have HRW:=Hd hrep;simp only[Ar] at hcs HRW;have y0:=hcs 0 _ rfl;have y1:=hcs 1 _ rfl;have y2:=hcs 2 _ rfl;have y3:=hcs 3 _ rfl;have y4:=hcs 4 _ rfl;have y5:=hcs 5 _ rfl;injection hv3 with hv3 hv4 hv5
      subst hv3;clear hcs hrep;have rs:=B5 rb (.int .i64 k2) (.string s2) (.int .i64 n2) (.slice Aq ps2.length cq) (.slice Ag fs2.length cg) (.slice Ah vs2.length ch);have r0:=Ch rs 0;have r1:=Ch rs 1;have r2:=Ch rs 2;have r3:=Ch rs 3;have r4:=Ch rs 4;have r5:=Ch rs 5;clear rb rs;go_wp2_with fail;refine bodyPost_ret (v:=.agg #[.int .i64 k2,.string s2,.int .i64 n2,.slice Aq ps2.length cq,.slice Ag fs2.length cg,.slice Ah vs2.length ch]) (by simp[results,Tryz.results30,go_sem,r0,r1,r2,r3,r4,r5]) rfl ?_;clear r0 r1 r2 r3 r4 r5 q0 q1 q2 q3 q4 q5 z0 z1 z2 z3 z4 z5;rw[HE.out];exact⟨[.int .i64 k2,.string s2,.int .i64 n2,.slice Aq ps2.length cq,.slice Ag fs2.length cg,.slice Ah vs2.length ch],rfl,Ii HRW.out HLO.out HO2.out.2 _ _ _ _ _ _,Cb HBE.out (Nat.le_refl _) _ _ _ _ _ _⟩
     ·have hd0:((x :: y :: d).length:Int)≠0:=(by simp;omega);have hd1:((x :: y :: d).length:Int)≠1:=(by simp;omega);have te0:(((x :: y :: d).length:Int) == 0)=false:=(by simpa using hd0);have te1:(((x :: y :: d).length:Int) == 1)=false:=(by simpa using hd1);have hun:Fq (x :: y :: d)=.mk 15 Bk 0 (x :: y :: d) [] []:=rfl;clear hd0 hd1;generalize x :: y :: d=dd at *;have HUN:=Hd hun;clear hun;have rs:=B5 rb (.int .i64 15) (.string ⟨#[]⟩) (.int .i64 0) (.slice A2 dd.length c2) (.slice none 0 0) (.slice none 0 0);have r0:=Ch rs 0;have r1:=Ch rs 1;have r2:=Ch rs 2;have r3:=Ch rs 3;have r4:=Ch rs 4;have r5:=Ch rs 5;clear rb rs;go_wp2_with fail;refine bodyPost_ret (v:=.agg #[.int .i64 15,.string ⟨#[]⟩,.int .i64 0,.slice A2 dd.length c2,.slice none 0 0,.slice none 0 0]) (by simp[results,Tryz.results30,go_sem,r0,r1,r2,r3,r4,r5]) rfl ?_;clear r0 r1 r2 r3 r4 r5 q0 q1 q2 q3 q4 q5 z0 z1 z2 z3 z4 z5;rw[HE.out,HUN.out];exact⟨[.int .i64 15,.string ⟨#[]⟩,.int .i64 0,.slice A2 dd.length c2,.slice none 0 0,.slice none 0 0],rfl,HWI.out _ _ _ _ _ _,Cb HBE.out (Nat.le_refl _) _ _ _ _ _ _⟩
theorem B6 (a:Ty) (l:List Ty):An (a :: l)=Ai a+An l:=by simp[An]
theorem Mv (k:Int):∀ (ps:List Ty) (i:Nat),(∀ p∈ps,(Aw p).length<=Ai p)->(Bu k i ps).length<=An ps
 | [],_,_=>by simp[Bu,An]
 | p :: l,i,h=>by
  have h1:=h p List.mem_cons_self;have h2:=Mv k l (i+1) fun q hq=>h q (List.mem_cons_of_mem _ hq);rw[Bu,B6,List.length_append]
  split
  ·simp only[List.length_nil];omega
  ·omega
theorem Mu:∀ (fs:Bp),(∀ f∈fs,(Aw f.2.2).length<=Ai f.2.2)->(Cs fs).length<=Bd fs
 | [],_=>by simp[Cs]
 | f :: l,h=>by
  have h1:=h f List.mem_cons_self;have h2:=Mu l fun q hq=>h q (List.mem_cons_of_mem _ hq);have e1:Cs (f :: l)=Aw f.2.2++Cs l:=by simp[Cs]
  have e2:Bd (f :: l)=Ai f.2.2+Bd l:=by simp[Bd]
  rw[e1,e2,List.length_append];omega
theorem Ev (t:Ty):(Aw t).length<=Ai t:=by
 refine Ty.ind (C:=fun t=>(Aw t).length<=Ai t) (fun k t n ps fs vs hp hf _=>?_) t;rw[Dh,Br];have h1:=Mv k ps 0 hp;have h2:=Mu fs hf
 split
 ·simp only[List.length_singleton];omega
 ·rw[List.length_append];omega
theorem Jb (t:Ty):1<=Ai t:=by
 obtain⟨k,s,n,ps,fs,vs⟩:=t;rw[Br];omega
theorem Gn:∀ {l:List Ty} {x:Ty},x∈l->Ai x<=An l
 | a :: l,x,h=>by
  rw[B6];rcases List.mem_cons.1 h with rfl | h
  ·omega
  ·have:=Gn h;omega
theorem Hc:∀ (l:List Ty),(∀ p∈l,(Cq p).length<=Ai p/\∀ x∈Cq p,Ai x<=Ai p)->(Bb l).length<=An l/\∀ x∈Bb l,Ai x<=An l
 | [],_=>⟨by simp[Bb],fun x h=>absurd h (by simp[Bb])⟩
 | a :: l,h=>by
  obtain⟨h1,h2⟩:=h a List.mem_cons_self;obtain⟨h3,h4⟩:=Hc l fun q hq=>h q (List.mem_cons_of_mem _ hq);rw[He,B6,List.length_append];refine⟨by omega,fun x hx=>?_⟩;rcases List.mem_append.1 hx with hx | hx
  ·have:=h2 x hx;omega
  ·have:=h4 x hx;omega
theorem Tb (t:Ty):(Cq t).length<=Ai t/\∀ x∈Cq t,Ai x<=Ai t:=by
 refine Ty.ind (C:=fun t=>(Cq t).length<=Ai t/\∀ x∈Cq t,Ai x<=Ai t) (fun k t n ps fs vs hp _ _=>?_) t;rw[Ck]
 split
 ·obtain⟨h1,h2⟩:=Hc ps hp;rw[Br];exact⟨by omega,fun x hx=>by have:=h2 x hx;omega⟩
 ·refine⟨by have:=Jb (.mk k t n ps fs vs);simpa using this,fun x hx=>?_⟩;rw[List.mem_singleton] at hx;subst hx;exact Nat.le_refl _
theorem Jz (l:List Ty):(Bb l).length<=An l/\∀ x∈Bb l,Ai x<=An l:=Hc l fun p _=>Tb p
theorem Ru (t:Ty):Ab t=true->∀ x∈Cq t,Ab x=true:=by
 refine Ty.ind (C:=fun t=>Ab t=true->∀ x∈Cq t,Ab x=true) (fun k t n ps fs vs hp _ _ h x hx=>?_) t;rw[Ck] at hx
 split at hx
 ·rw[Am,Bool.and_eq_true,List.all_eq_true] at h;unfold Bb at hx;rw[List.mem_flatten] at hx;obtain⟨m,hm,hx⟩:=hx;obtain⟨p,hpm,rfl⟩:=List.mem_map.1 hm;exact hp p hpm (h.2 p hpm) x hx
 ·rw[List.mem_singleton] at hx;subst hx;exact h
theorem Iv {l:List Ty} (h:l.all Ab=true):∀ x∈Bb l,Ab x=true:=fun x hx=>by
 unfold Bb at hx;rw[List.mem_flatten] at hx;obtain⟨m,hm,hx⟩:=hx;obtain⟨p,hpm,rfl⟩:=List.mem_map.1 hm;exact Ru p (List.all_eq_true.1 h p hpm) x hx
theorem Jx {s:Shp} {t:ByteArray} {n:Int} {np nf nv:Nat} (h:Aj s t n np nf nv=true) (hs:s.hi=0) (hf:s.f=false) (hv:s.v=false):np=0/\nf=0/\nv=0/\(s.t=false->t.toList=[])/\(s.n=false->n=0):=by
 unfold Aj at h;rw[hs,hf,hv] at h;simp only[Bool.and_eq_true,Bool.not_eq_true',Bool.or_eq_false_iff,Bool.or_eq_true,decide_eq_true_eq,beq_iff_eq,Bool.not_false,Bool.true_and,decide_eq_false_iff_not] at h;obtain⟨⟨⟨⟨h1,h2⟩,h3⟩,h4⟩,h5,h6⟩:=h;refine⟨by omega,by omega,by omega,fun e=>?_,fun e=>?_⟩
 ·rw[e] at h1;simpa using h1
 ·rw[e] at h2;simpa using h2
theorem Db {k:Int} {t:ByteArray} {n:Int} {ps:List Ty} {fs:Bp} {vs:Bm} (h:Ab (.mk k t n ps fs vs)=true):Aj (Ae k) t n ps.length fs.length vs.length=true:=by
 rw[Am,Bool.and_eq_true,Bool.and_eq_true,Bool.and_eq_true] at h;exact h.1.1.2
theorem Gq {k:Int} {x:Ty} (hx:Ab x=true) (hk:x.k=k) (h1:1<=k) (h8:k<=8):x=E7 k:=by
 obtain⟨q,t,n,ps,fs,vs⟩:=x;have e:q=k:=hk;subst e;have hs:Ae q=⟨false,false,false,false,0,0,true⟩:=by unfold Ae;rw[if_pos ⟨h1,h8⟩]
 have hf:=Db hx;rw[hs] at hf;obtain⟨a,b,c,d,e⟩:=Jx hf rfl rfl rfl;have ht:t=Bk:=Es (by have:=d rfl;rw[ByteArray.toList_eq] at this;rw[this];rfl);rw[List.eq_nil_of_length_eq_zero a,List.eq_nil_of_length_eq_zero b,List.eq_nil_of_length_eq_zero c,ht,e rfl];rfl
theorem Oa {x:Ty} (hx:Ab x=true) (hk:x.k=7\/x.k=8\/x.k=9\/x.k=10):C6 x=false:=by
 obtain⟨q,t,n,ps,fs,vs⟩:=x;have hk':q=7\/q=8\/q=9\/q=10:=hk;have hf:=Db hx;have h0:ps.length=0/\fs.length=0:=by
  rcases hk' with rfl | rfl | rfl | rfl <;> (have:=Jx hf rfl rfl rfl;exact⟨this.1,this.2.1⟩)
 have e:(q == 22)=false:=by rcases hk' with rfl | rfl | rfl | rfl <;> rfl
 rw[F0,List.eq_nil_of_length_eq_zero h0.1,List.eq_nil_of_length_eq_zero h0.2,e];rfl
theorem M1 {l:List Ty} (h:l.all Ab=true):R8 (Bb l):=fun x hx=>
 have hf:=Iv h x hx
 ⟨fun e=>Gq hf e (by decide) (by decide),fun e=>Gq hf e (by decide) (by decide),Oa hf⟩
end Go.Proofs.YtlpfpehegddcfaaGreatDoor
