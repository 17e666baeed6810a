import Derived.Test.YtlpfpehegddcfaaGreatDoorMx17
namespace Go.Proofs.YtlpfpehegddcfaaGreatDoor
set_option maxRecDepth 100000
set_option maxHeartbeats 64000000
open Go.RowKit
def No (l:List Ty):List Ty:=if D6 3 (E4 l) then Hl 3 (E4 l) else if D6 2 (E4 l) then Hl 2 (E4 l) else E4 l
def Ct (n s:Bool) (t:Ty):Bool:=t.k == 9 && n || t.k == 10 && s
def Gu (l:List Ty):List Ty:=(No l).filter fun t=>!Ct (D6 7 (No l)) (D6 8 (No l)) t
theorem G6 {k:Int}{l:List Ty}:D6 k l=true↔∃t∈l,t.k=k:=by
 unfold D6;rw[List.any_eq_true];exact⟨fun ⟨t,h,e⟩=>⟨t,h,by simpa using e⟩,fun ⟨t,h,e⟩=>⟨t,h,by simpa using e⟩⟩
theorem Gm {l:List Ty}{t:Ty}:t∈E4 l↔t∈Bz l/\t.k≠1:=by
 unfold E4;rw[List.mem_filter];simp
theorem Iv {l:List Ty}{k:Int}(hk:k≠1):D6 k (E4 l)=D6 k (Bz l):=by
 rw[Bool.eq_iff_iff,G6,G6];exact⟨fun ⟨t,h,e⟩=>⟨t,(Gm.1 h).1,e⟩,fun ⟨t,h,e⟩=>⟨t,Gm.2 ⟨h,by rw[e];exact hk⟩,e⟩⟩
theorem Mt {k:Int}{l:List Ty}{t:Ty}:t∈Hl k l↔t=Hi k\/(t∈l/\t.k≠k/\Fg t=true):=by
 unfold Hl;rw[List.mem_cons,List.mem_filter];simp
def Sl (l:List Ty):Prop:=∀t∈l,(t.k=3->t=Hi 3)/\(t.k=2->t=Hi 2)/\(t.k=7\/t.k=8\/t.k=9\/t.k=10->Fg t=false)
theorem Jap (k:Int):(Hi k).k=k:=rfl
theorem Zu {l:List Ty}{t:Ty}(h:t∈l):D6 t.k l=true:=G6.2 ⟨t,h,rfl⟩
theorem Wz {l:List Ty}(hP:Sl (Bz l)) (t:Ty):t∈Gu l↔t∈Gv l:=by
 unfold Gu Gv;rw[List.mem_filter,List.mem_filter];have n3:D6 3 (E4 l)=D6 3 (Bz l):=Iv (by decide);have n2:D6 2 (E4 l)=D6 2 (Bz l):=Iv (by decide);have hA:∀k,(k=7\/k=8)->∀q,(q=3\/q=2)->D6 k (Hl q (E4 l))=false:=by
  intro k hk q hq;rw[<-Bool.not_eq_true,G6];rintro⟨x,hx,e⟩;rcases Mt.1 hx with rfl|⟨h1,-,h3⟩
  ·rw[Jap]at e;omega
  ·rw[(hP x (Gm.1 h1).1).2.2 (by omega)]at h3;exact absurd h3 (by simp)
 unfold No;rw[n3,n2]
 cases h3:D6 3 (Bz l) with
 | true=>
  simp only[if_true];rw[hA 7 (.inl rfl) 3 (.inl rfl),hA 8 (.inr rfl) 3 (.inl rfl),Mt,Gm];obtain⟨x,hx,ex⟩:=G6.1 h3;have hC:=(hP x hx).1 ex;subst hC;simp only[Ct,Bool.and_false,Bool.or_false,Bool.not_false,and_true];unfold Fa D1;rw[h3]
  constructor
  ·rintro (rfl|⟨⟨h1,h4⟩,h5,h6⟩)
   ·exact⟨hx,by rw[Jap];rfl⟩
   ·refine⟨h1,?_⟩;rw[if_neg h4,if_neg h5];simp[h6]
  ·rintro⟨h1,h2⟩;by_cases e1:t.k=1
   ·rw[if_pos e1]at h2;exact absurd h2 (by simp)
   by_cases e3:t.k=3
   ·exact .inl ((hP t h1).1 e3)
   ·rw[if_neg e1,if_neg e3]at h2;simp at h2;exact .inr ⟨⟨h1,e1⟩,e3,h2⟩
 | false=>
  simp only[Bool.false_eq_true,if_false];have e3:t∈Bz l->t.k≠3:=fun h e=>by have:=Zu h;rw[e,h3]at this;exact absurd this (by simp)
  cases h2:D6 2 (Bz l) with
  | true=>
   simp only[if_true];rw[hA 7 (.inl rfl) 2 (.inr rfl),hA 8 (.inr rfl) 2 (.inr rfl),Mt,Gm];obtain⟨x,hx,ex⟩:=G6.1 h2;have hB:=(hP x hx).2.1 ex;subst hB;simp only[Ct,Bool.and_false,Bool.or_false,Bool.not_false,and_true];unfold Fa D1;rw[h3,h2]
   constructor
   ·rintro (rfl|⟨⟨h1,h4⟩,h5,h6⟩)
    ·exact⟨hx,by rw[Jap];rfl⟩
    ·refine⟨h1,?_⟩;rw[if_neg h4,if_neg (e3 h1)];simp[h5,h6]
   ·rintro⟨h1,hk⟩;by_cases e1:t.k=1
    ·rw[if_pos e1]at hk;exact absurd hk (by simp)
    by_cases e2:t.k=2
    ·exact .inl ((hP t h1).2.1 e2)
    ·rw[if_neg e1,if_neg (e3 h1)]at hk;simp[e2]at hk;exact .inr ⟨⟨h1,e1⟩,e2,hk⟩
  | false=>
   simp only[Bool.false_eq_true,if_false];have e2:t∈Bz l->t.k≠2:=fun h e=>by have:=Zu h;rw[e,h2]at this;exact absurd this (by simp)
   rw[Iv (by decide),Iv (by decide),Gm];unfold Fa D1 Ct;rw[h3,h2]
   constructor
   ·rintro⟨⟨h1,h4⟩,h5⟩;refine⟨h1,?_⟩;rw[if_neg h4,if_neg (e3 h1),if_neg (by simp[e2 h1])];by_cases k9:t.k=9 <;> by_cases k10:t.k=10 <;> simp_all
   ·rintro⟨h1,hk⟩;by_cases e1:t.k=1
    ·rw[if_pos e1]at hk;exact absurd hk (by simp)
    rw[if_neg e1,if_neg (e3 h1),if_neg (by simp[e2 h1])]at hk;refine⟨⟨h1,e1⟩,?_⟩;by_cases k9:t.k=9 <;> by_cases k10:t.k=10 <;> simp_all
theorem Jaq {l:List Ty}(hP:Sl (Bz l)):Jz (Eh (Gu l))=E5 l:=by
 unfold E5;rw[Hh (Ii (Gv l)) fun x=>by rw[G9,Wz hP]]
theorem Gt {K:Nat->Prop}{w0 w:World}{l:List Ty}{A:Option Addr}{c:Nat}(hL:Jdh K w0 w A l) (k:Int) :
  Calls Tryz.prog 58 #[.slice A l.length c,.int .i64 k] w fun e w'=>e=.returned (.bool (D6 k l))/\w'=w:=by
 obtain⟨b,hD,hK,hC⟩:=hL;have hF:=Hd hD;have hG:=Hd hC;clear hD hC;go_enter Tryz.func58,Tryz.ntmps58;go_wp2_with fail
 go_loopw [5] (fun v wr=>∃(i:Nat),i<=l.length/\v=.int .i64 i/\D6 k l=D6 k (l.drop i)/\wr=w) (fun v _=>l.length - (intOf v).toNat)
 case atStart=>exact⟨0,by omega,rfl,by rw[List.drop_zero],rfl⟩
 case round=>
  obtain⟨i,hi,rfl,he,rfl⟩:=hrel;have HE:=Hd he;clear he;by_cases hB:i<l.length
  ·have t1:decide ((i:Int)<(l.length:Int))=true:=by simp;omega
   have hE:wrap64 ((i:Int)+1)=((i+1:Nat):Int):=Ba (by omega);have hA:=hF.o (by omega);subst hA;obtain⟨q,hq,hJ⟩:∃q,(l[i]'hB).k=q/\wr.cell? ⟨b,i*6,none⟩=some (.int .i64 q):=by
    obtain⟨cs,h1,h2⟩:=hG.o i hB;generalize l[i]=t at h1;obtain⟨k,s,n,ps,fs,vs⟩:=t;obtain⟨_,_,_,_,_,_,rfl,-⟩:=h1.inv;exact⟨k,rfl,h2 0 _ rfl⟩
   have HS:Z9 (D6 k (l.drop i)=((l[i]'hB).k == k || D6 k (l.drop (i+1)))):=Hd (by rw[List.drop_eq_getElem_cons hB];rfl);have HM:=Hd (Bg hB);have hI:Z9 (i+1<=l.length):=Hd hB;by_cases hk:q=k
   ·have HK:Z9 (((l[i]'hB).k == k)=true):=Hd (by rw[hq];simpa using hk);have e13:(q == k)=true:=(by simpa using hk);clear hi hq hk;go_wp2_with fail;go_ret
    exact⟨by rw[HE.o,HS.o,HK.o];rfl,rfl⟩
   ·have HK:Z9 (((l[i]'hB).k == k)=false):=Hd (by rw[hq];simpa using hk);have e13:(q == k)=false:=(by simpa using hk);clear hi hq hk;go_wp2_with fail;refine⟨⟨i+1,hI.o,by first|rfl|rw[hE],by rw[HE.o,HS.o,HK.o];rfl,by first|rfl|trivial⟩,?_⟩;first|exact HM.o|(rw[hE];exact HM.o)
  ·have t1:decide ((i:Int)<(l.length:Int))=false:=by simp;omega
   have hH:Z9 (D6 k l=false):=Hd (by rw[HE.o,List.drop_eq_nil_of_le (by omega)];rfl);clear hi;go_wp2_with fail;go_ret
   exact⟨by rw[hH.o];rfl,rfl⟩
theorem Cs.nil (K:Nat->Prop) (w0 w:World):Cs K w0 w (.slice none 0 0) []:=⟨[],World.ownsRow_nil _ _ _ _,fun i h=>absurd h (by simp)⟩
theorem Jeo (K:Nat->Prop) (w:World):Dt K w [] none 0:=⟨⟨0,0,⟨by simp,by decide,fun _=>rfl,fun h=>absurd h (by simp)⟩,fun i h=>absurd h (by simp)⟩⟩
theorem Jep (K:Nat->Prop) (w:World):Da K w [] none 0:=⟨⟨0,0,⟨by simp,by decide,fun _=>rfl,fun h=>absurd h (by simp)⟩,fun i h=>absurd h (by simp)⟩⟩
theorem Ks {K:Nat->Prop}{w w1 W:World}{A:Option Addr}{c:Nat}{l:List Ty}(h:Cs K w1 W (.slice A l.length c) l) (hB:∀b,K b->b<w.heap.size) (hb:Below w1.heap.size w1 W) (hg:w.heap.size<w1.heap.size) (hl:l.length<=1099511627776) (y0 y1 y2 y3 y4 y5:Value) :
  Aw (fun b=>K b\/w.heap.size<=b) ((((((W.setCell ⟨w.heap.size,0,none⟩ y0).setCell ⟨w.heap.size,1,none⟩ y1).setCell ⟨w.heap.size,2,none⟩ y2).setCell ⟨w.heap.size,3,none⟩ y3).setCell ⟨w.heap.size,4,none⟩ y4).setCell ⟨w.heap.size,5,none⟩ y5) (.mk 15 Bv 0 l [] []) [.int .i64 15,.string ⟨#[]⟩,.int .i64 0,.slice A l.length c,.slice none 0 0,.slice none 0 0]:=by
 refine Aw.of (by decide) ?_ (Jeo _ _) (Jep _ _);rcases Fc.of_out h with ⟨hv,hn⟩|⟨g,c1,hv,hC,hi⟩
 ·subst hn;injection hv with h1 h2 h3
  subst h1 h3;exact⟨0,0,⟨by simp,by simp,fun _=>rfl,fun h=>absurd h (by simp)⟩,fun i h=>absurd h (by simp)⟩
 ·injection hv with h1 h2 h3
  subst h1 h3;refine⟨g,0,⟨hi.le,by omega,(fun h=>by cases h),fun _=>⟨rfl,.inr (by omega)⟩⟩,fun i hA=>?_⟩;obtain⟨cs,h4,h5⟩:=hi.reps i _ (List.getElem?_eq_getElem hA);refine⟨cs,fun j u hj=>?_,Ix h4 hB hb _ _ _ _ _ _⟩;rw[Km W y0 y1 y2 y3 y4 y5 (p:=⟨g,0+i*6+j,none⟩) (by show g≠_;omega),Nat.zero_add];exact h5 j u hj
theorem Nh {K:Nat->Prop}{w0 w:World}{v:Value}{x:Ty}(h:Cs K w0 w v [x]):∃g c,v=.slice (some ⟨g,0,none⟩) 1 c/\∃cs,Aw K w0 x cs/\∀j u,cs[j]?=some u->w.cell? ⟨g,j,none⟩=some u:=by
 rcases Fc.of_out h with ⟨-,hn⟩|⟨g,c1,hv,-,hi⟩
 ·exact absurd hn (by simp)
 ·obtain⟨cs,h4,h5⟩:=hi.reps 0 x rfl;refine⟨g,c1,hv,cs,h4,fun j u hj=>?_⟩;have:=h5 j u hj;rw[Nat.zero_mul,Nat.zero_add]at this;exact this
theorem Ex (t:Ty):∀l,(Fv t l).length<=l.length+1
 | []=>by simp[Fv]
 | x :: l=>by
  have:=Ex t l;unfold Fv
  repeat' split
  all_goals simp only[List.length_cons]at *
  all_goals omega
theorem Hq {q:Ty->Bool}{l:List Ty}{i:Nat}(h:i<l.length):(l.take (i+1)).filter q=(l.take i).filter q++(if q l[i] then [l[i]] else []):=by
 rw[List.take_succ_eq_append_getElem h,List.filter_append];simp only[List.filter_cons,List.filter_nil]
theorem Xm {K:Nat->Prop}{w:World}{l:List Ty}{A:Option Addr}{c:Nat}(hL:Bk K w l A c) (aJ:∀b,K b->b<w.heap.size) (hn:∀t∈Bz l,(Bi t).length<=1099511627776) (hl:(Bz l).length+1<=1099511627776) :
  Calls Tryz.prog 30 #[.slice A l.length c] w fun e w'=>∃cs,e=.returned (.agg cs.toArray)/\Aw (fun b=>K b\/w.heap.size<=b) w' (Jz (Eh (Gu l))) cs/\Below w.heap.size w w':=by
 obtain⟨wb,aD⟩:∃x,x=w.alloc (.cells #[.int .i64 0,.string ⟨#[]⟩,.int .i64 0,.slice none 0 0,.slice none 0 0,.slice none 0 0] 26):=⟨_,rfl⟩;have kR:Z9 (Below w.heap.size w wb):=Hd (by rw[aD];exact (Below.refl _ _).alloc (Nat.le_refl _) _);have aA:Z9 (wb.heap.size=w.heap.size+1):=Hd (by rw[aD];simp);have aE:Z9 (wb.heap[w.heap.size]?=some (.cells #[.int .i64 0,.string ⟨#[]⟩,.int .i64 0,.slice none 0 0,.slice none 0 0,.slice none 0 0] 26 (0,0))):=Hd (by rw[aD];exact heap_alloc_new w _);have KF:=Hd (We l _ wb wb A c (.slice none 0 0) [] (hL.later kR.o) (Below.refl _ _) (Cs.nil _ _ _) (by simp only[List.length_nil];omega));have HN:=Hd fun t (h:t∈E4 l)=>hn t (Gm.1 h).1;have kE:Z9 ((E4 l).length+1<=1099511627776):=Hd (by have:=R3 l;omega);have kG:=Hd aJ;clear hL hn hl aJ;go_enter Tryz.func30,Tryz.ntmps30;go_wp2_with fail;rw[<-aD];clear aD;refine KF.o.mono ?_;rintro e w1 ⟨v1,rfl,ho,hb⟩;rw[List.nil_append]at ho;have aG:=Hd ho;have kD:=Hd hb;obtain⟨A0,c0,rfl,hs⟩:=Cs.src ho (by have:=kE.o;omega);have kX:=Hd hs;have aH:=Hd (Gt (c:=c0) hs 3);have aF:=Hd (Gt (c:=c0) hs 2);clear ho hb KF hs;go_wp2_with fail;refine aH.o.mono ?_;rintro e w2 ⟨rfl,rfl⟩;clear aH
 cases h3:D6 3 (E4 l) with
 | true=>
  have KB:=Hd (Mb (c:=c0) 3 (fun b (h:K b)=>by have:=aA.o;have:=kG.o b h;omega) kD.o kX.o HN.o kE.o);have kN:Hl 3 (E4 l)=No l:=by rw[No,h3,if_pos rfl]
  have hY:(Hl 3 (E4 l)).length<=1099511627776:=Nat.le_trans (Ma _ _) kE.o;generalize Hl 3 (E4 l)=F at *;have kV:=Hd kN;have kC:=Hd hY;clear kN hY h3 HN aF;go_wp2_with fail;refine KB.o.mono ?_;rintro e w2 ⟨v2,rfl,hF,hE⟩;have hT:=Hd (kD.o.trans (hE.mono kD.o.size));obtain⟨A1,c1,rfl,aC⟩:=Cs.src hF kC.o;have hO:=Hd aC;clear hF hE aC KB aG kD kX kE;have hW:=Hd (Gt (c:=c1) hO.o 7);have hX:=Hd (Gt (c:=c1) hO.o 8);obtain⟨qn,hZ⟩:∃q,q=D6 7 F:=⟨_,rfl⟩;obtain⟨qs,kA⟩:∃q,q=D6 8 F:=⟨_,rfl⟩;rw[<-hZ]at hW;rw[<-kA]at hX;have kW:Z9 (Gu l=F.filter fun t=>!Ct qn qs t):=Hd (by rw[Gu,<-kV.o,<-hZ,<-kA]);clear hZ kA;go_wp2_with fail;refine hW.o.mono ?_;rintro e wa ⟨rfl,rfl⟩;go_wp2_with fail;refine hX.o.mono ?_;rintro e wd ⟨rfl,rfl⟩;go_wp2_with fail;obtain⟨b,kI,aI,kK⟩:=hO.o;have kS:=Hd kI;have kU:=Hd kK;clear kI kK hW hX
  go_loopw [6,7] (fun ov iv wr=>∃(i:Nat) (acc:List Ty),i<=F.length/\iv=.int .i64 i/\Lm acc/\(∀x,x∈acc↔x∈(F.take i).filter fun t=>!Ct qn qs t)/\acc.length<=i/\Cs K wd wr ov acc/\Below wd.heap.size wd wr) (fun _ v _=>F.length - (intOf v).toNat)
  case atStart=>exact⟨0,[],by omega,rfl,List.Pairwise.nil,fun x=>by simp,Nat.le_refl _,Cs.nil _ _ _,Below.refl _ _⟩
  case round=>
   obtain⟨i,acc,hi,rfl,has,hS,kJ,ho,hb⟩:=hrel;have hN:=Hd has;have hD:=Hd hS;have hM:=Hd kJ;have hA:=Hd (And.intro ho hb);obtain⟨vs,kQ,-⟩:=ho;obtain⟨A2,c2,rfl,-⟩:=Gx kQ;clear kQ hb has hS kJ;by_cases hU:i<F.length
   ·have t1:decide ((i:Int)<(F.length:Int))=true:=(by simp;omega);have hG:wrap64 ((i:Int)+1)=((i+1:Nat):Int):=Ba (by omega);have HM:=Hd (Bg hU);have aB:=kS.o (by omega);obtain⟨cs,hB,hC⟩:=kU.o i hU;have hQ:=Hd (Hq (q:=fun t=>!Ct qn qs t) hU);subst aB;generalize F[i]=t at hB hQ;obtain⟨k2,s2,n2,hI,hH,hJ⟩:=t;have KP:=Hd (Px hA.o.1 hN.o (hB.later hT.o) hA.o.2 (by have:=hM.o;have:=kC.o;omega));unfold Gs at KP;obtain⟨Aq,cq,Ag,cg,Ah,ch,rfl,-⟩:=hB.inv;have hR:Z9 (i+1<=F.length):=Hd hU;have y0:=Aa hA.o.2 (hC 0 _ rfl);have y1:=Aa hA.o.2 (hC 1 _ rfl);have y2:=Aa hA.o.2 (hC 2 _ rfl);have y3:=Aa hA.o.2 (hC 3 _ rfl);have y4:=Aa hA.o.2 (hC 4 _ rfl);have y5:=Aa hA.o.2 (hC 5 _ rfl);rw[Nat.add_zero]at y0;simp only[Az]at KP;clear hi hC hB;by_cases h9:k2=9
    ·have g9:(k2 == 9)=true:=(by simpa using h9);have g10:(k2 == 10)=false:=by subst h9;rfl
     cases qn with
     | true=>
      have HQ:Z9 ((!Ct true qs (.mk k2 s2 n2 hI hH hJ))=false):=Hd (by simp[Ct,Ty.k,h9]);clear h9 KP;go_wp2_with fail;refine⟨⟨i+1,acc,hR.o,by first|rfl|rw[hG],hN.o,fun x=>?p1,Nat.le_succ_of_le hM.o,hA.o.1,hA.o.2⟩,?p3⟩
      case p1=>rw[hQ.o,HQ.o];simpa using hD.o x
      case p3=>first|exact HM.o|(rw[hG];exact HM.o)
     | false=>
      have HQ:Z9 ((!Ct false qs (.mk k2 s2 n2 hI hH hJ))=true):=Hd (by simp[Ct,Ty.k,h9]);clear h9;go_wp2_with fail;refine KP.o.mono ?_;rintro e w2 ⟨v2,rfl,hF,hE⟩;have hK:=Hd (And.intro hF hE);clear hF hE KP y0 y1 y2 y3 y4 y5;go_wp2_with fail;refine⟨⟨i+1,_,hR.o,by first|rfl|rw[hG],D3 _ hN.o,fun x=>?p1,?p2,hK.o.1,hK.o.2⟩,?p3⟩
      case p1=>rw[hQ.o,HQ.o,Dw,hD.o];simp[or_comm]
      case p2=>exact Nat.le_trans (Ex _ _) (Nat.succ_le_succ hM.o)
      case p3=>first|exact HM.o|(rw[hG];exact HM.o)
    ·have g9:(k2 == 9)=false:=(by simpa using h9);by_cases hP:k2=10
     ·have g10:(k2 == 10)=true:=by simpa using hP
      cases qs with
      | true=>
       have HQ:Z9 ((!Ct qn true (.mk k2 s2 n2 hI hH hJ))=false):=Hd (by simp[Ct,Ty.k,hP]);clear h9 hP KP;go_wp2_with fail;refine⟨⟨i+1,acc,hR.o,by first|rfl|rw[hG],hN.o,fun x=>?p1,Nat.le_succ_of_le hM.o,hA.o.1,hA.o.2⟩,?p3⟩
       case p1=>rw[hQ.o,HQ.o];simpa using hD.o x
       case p3=>first|exact HM.o|(rw[hG];exact HM.o)
      | false=>
       have HQ:Z9 ((!Ct qn false (.mk k2 s2 n2 hI hH hJ))=true):=Hd (by simp[Ct,Ty.k,h9]);clear h9 hP;go_wp2_with fail;refine KP.o.mono ?_;rintro e w2 ⟨v2,rfl,hF,hE⟩;have hK:=Hd (And.intro hF hE);clear hF hE KP y0 y1 y2 y3 y4 y5;go_wp2_with fail;refine⟨⟨i+1,_,hR.o,by first|rfl|rw[hG],D3 _ hN.o,fun x=>?p1,?p2,hK.o.1,hK.o.2⟩,?p3⟩
       case p1=>rw[hQ.o,HQ.o,Dw,hD.o];simp[or_comm]
       case p2=>exact Nat.le_trans (Ex _ _) (Nat.succ_le_succ hM.o)
       case p3=>first|exact HM.o|(rw[hG];exact HM.o)
     ·have g10:(k2 == 10)=false:=(by simpa using hP);have HQ:Z9 ((!Ct qn qs (.mk k2 s2 n2 hI hH hJ))=true):=Hd (by simp[Ct,Ty.k,h9,hP]);clear h9 hP;go_wp2_with fail;refine KP.o.mono ?_;rintro e w2 ⟨v2,rfl,hF,hE⟩;have hK:=Hd (And.intro hF hE);clear hF hE KP y0 y1 y2 y3 y4 y5;go_wp2_with fail;refine⟨⟨i+1,_,hR.o,by first|rfl|rw[hG],D3 _ hN.o,fun x=>?p1,?p2,hK.o.1,hK.o.2⟩,?p3⟩
      case p1=>rw[hQ.o,HQ.o,Dw,hD.o];simp[or_comm]
      case p2=>exact Nat.le_trans (Ex _ _) (Nat.succ_le_succ hM.o)
      case p3=>first|exact HM.o|(rw[hG];exact HM.o)
   ·have t1:decide ((i:Int)<(F.length:Int))=false:=(by simp;omega);have HE:Z9 (Eh (Gu l)=acc):=Hd (Hh hN.o fun x=>by rw[hD.o,List.take_of_length_le (by omega),kW.o]);have kF:=Hd (hT.o.trans (hA.o.2.mono hT.o.size));have hV:=Hd (kR.o.trans (kF.o.mono kR.o.size));have rb:=Fu aE.o kF.o;have q0:=Ch rb 0;have q1:=Ch rb 1;have q2:=Ch rb 2;have q3:=Ch rb 3;have q4:=Ch rb 4;have q5:=Ch rb 5;have z0:=Lib.frozen_of_heap rb 0;have z1:=Lib.frozen_of_heap rb 1;have z2:=Lib.frozen_of_heap rb 2;have z3:=Lib.frozen_of_heap rb 3;have z4:=Lib.frozen_of_heap rb 4;have z5:=Lib.frozen_of_heap rb 5;have kT:Z9 (acc.length<=1099511627776):=Hd (by have:=hM.o;have:=kC.o;omega);clear hi;have kZ:=Hd (Ks (w:=w) hA.o.1 kG.o hA.o.2 (by have h1:=aA.o;have h2:=hT.o.size;omega) kT.o);rcases acc with _|⟨x,_|⟨y,d⟩⟩
    ·have kO:True:=trivial;have rs:=Cd rb (.int .i64 1) (.string ⟨#[]⟩) (.int .i64 0) (.slice none 0 0) (.slice none 0 0) (.slice none 0 0);have r0:=Ch rs 0;have r1:=Ch rs 1;have r2:=Ch rs 2;have r3:=Ch rs 3;have r4:=Ch rs 4;have r5:=Ch rs 5;clear rb rs;go_wp2_with fail;refine bodyPost_ret (v:=.agg #[.int .i64 1,.string ⟨#[]⟩,.int .i64 0,.slice none 0 0,.slice none 0 0,.slice none 0 0]) (by simp[results,Tryz.results30,go_sem,r0,r1,r2,r3,r4,r5]) rfl ?_;clear r0 r1 r2 r3 r4 r5 q0 q1 q2 q3 q4 q5 z0 z1 z2 z3 z4 z5;rw[HE.o];exact⟨[.int .i64 1,.string ⟨#[]⟩,.int .i64 0,.slice none 0 0,.slice none 0 0,.slice none 0 0],rfl,Jw _ _ 1,B0 hV.o (Nat.le_refl _) _ _ _ _ _ _⟩
    ·obtain⟨g,c3,kB,zz⟩:=Nh hA.o.1;obtain⟨k2,s2,n2,hI,hH,hJ⟩:=x;obtain⟨cs,hB,hC⟩:=zz;obtain⟨Aq,cq,Ag,cg,Ah,ch,rfl,-⟩:=hB.inv;have kH:=Hd hB;simp only[Az]at hC kH;have y0:=hC 0 _ rfl;have y1:=hC 1 _ rfl;have y2:=hC 2 _ rfl;have y3:=hC 3 _ rfl;have y4:=hC 4 _ rfl;have y5:=hC 5 _ rfl;injection kB with kB aK aL
     subst kB;clear hC hB;have rs:=Cd rb (.int .i64 k2) (.string s2) (.int .i64 n2) (.slice Aq hI.length cq) (.slice Ag hH.length cg) (.slice Ah hJ.length ch);have r0:=Ch rs 0;have r1:=Ch rs 1;have r2:=Ch rs 2;have r3:=Ch rs 3;have r4:=Ch rs 4;have r5:=Ch rs 5;clear rb rs;go_wp2_with fail;refine bodyPost_ret (v:=.agg #[.int .i64 k2,.string s2,.int .i64 n2,.slice Aq hI.length cq,.slice Ag hH.length cg,.slice Ah hJ.length ch]) (by simp[results,Tryz.results30,go_sem,r0,r1,r2,r3,r4,r5]) rfl ?_;clear r0 r1 r2 r3 r4 r5 q0 q1 q2 q3 q4 q5 z0 z1 z2 z3 z4 z5;rw[HE.o];exact⟨[.int .i64 k2,.string s2,.int .i64 n2,.slice Aq hI.length cq,.slice Ag hH.length cg,.slice Ah hJ.length ch],rfl,Ix kH.o kG.o hA.o.2 _ _ _ _ _ _,B0 hV.o (Nat.le_refl _) _ _ _ _ _ _⟩
    ·have kL:((x :: y :: d).length:Int)≠0:=(by simp;omega);have kM:((x :: y :: d).length:Int)≠1:=(by simp;omega);have te0:(((x :: y :: d).length:Int) == 0)=false:=(by simpa using kL);have te1:(((x :: y :: d).length:Int) == 1)=false:=(by simpa using kM);have kP:Jz (x :: y :: d)=.mk 15 Bv 0 (x :: y :: d) [] []:=rfl;clear kL kM;generalize x :: y :: d=dd at *;have kY:=Hd kP;clear kP;have rs:=Cd rb (.int .i64 15) (.string ⟨#[]⟩) (.int .i64 0) (.slice A2 dd.length c2) (.slice none 0 0) (.slice none 0 0);have r0:=Ch rs 0;have r1:=Ch rs 1;have r2:=Ch rs 2;have r3:=Ch rs 3;have r4:=Ch rs 4;have r5:=Ch rs 5;clear rb rs;go_wp2_with fail;refine bodyPost_ret (v:=.agg #[.int .i64 15,.string ⟨#[]⟩,.int .i64 0,.slice A2 dd.length c2,.slice none 0 0,.slice none 0 0]) (by simp[results,Tryz.results30,go_sem,r0,r1,r2,r3,r4,r5]) rfl ?_;clear r0 r1 r2 r3 r4 r5 q0 q1 q2 q3 q4 q5 z0 z1 z2 z3 z4 z5;rw[HE.o,kY.o];exact⟨[.int .i64 15,.string ⟨#[]⟩,.int .i64 0,.slice A2 dd.length c2,.slice none 0 0,.slice none 0 0],rfl,kZ.o _ _ _ _ _ _,B0 hV.o (Nat.le_refl _) _ _ _ _ _ _⟩
 | false=>
  go_wp2_with fail;refine aF.o.mono ?_;rintro e w3 ⟨rfl,rfl⟩;clear aF
  cases h2:D6 2 (E4 l) with
  | true=>
   have KB:=Hd (Mb (c:=c0) 2 (fun b (h:K b)=>by have:=aA.o;have:=kG.o b h;omega) kD.o kX.o HN.o kE.o);have kN:Hl 2 (E4 l)=No l:=by rw[No,h3,h2,if_neg (by decide),if_pos rfl]
   have hY:(Hl 2 (E4 l)).length<=1099511627776:=Nat.le_trans (Ma _ _) kE.o;generalize Hl 2 (E4 l)=F at *;have kV:=Hd kN;have kC:=Hd hY;clear kN hY h3 h2 HN;go_wp2_with fail;refine KB.o.mono ?_;rintro e w2 ⟨v2,rfl,hF,hE⟩;have hT:=Hd (kD.o.trans (hE.mono kD.o.size));obtain⟨A1,c1,rfl,aC⟩:=Cs.src hF kC.o;have hO:=Hd aC;clear hF hE aC KB aG kD kX kE;have hW:=Hd (Gt (c:=c1) hO.o 7);have hX:=Hd (Gt (c:=c1) hO.o 8);obtain⟨qn,hZ⟩:∃q,q=D6 7 F:=⟨_,rfl⟩;obtain⟨qs,kA⟩:∃q,q=D6 8 F:=⟨_,rfl⟩;rw[<-hZ]at hW;rw[<-kA]at hX;have kW:Z9 (Gu l=F.filter fun t=>!Ct qn qs t):=Hd (by rw[Gu,<-kV.o,<-hZ,<-kA]);clear hZ kA;go_wp2_with fail;refine hW.o.mono ?_;rintro e wa ⟨rfl,rfl⟩;go_wp2_with fail;refine hX.o.mono ?_;rintro e wd ⟨rfl,rfl⟩;go_wp2_with fail;obtain⟨b,kI,aI,kK⟩:=hO.o;have kS:=Hd kI;have kU:=Hd kK;clear kI kK hW hX
   go_loopw [6,7] (fun ov iv wr=>∃(i:Nat) (acc:List Ty),i<=F.length/\iv=.int .i64 i/\Lm acc/\(∀x,x∈acc↔x∈(F.take i).filter fun t=>!Ct qn qs t)/\acc.length<=i/\Cs K wd wr ov acc/\Below wd.heap.size wd wr) (fun _ v _=>F.length - (intOf v).toNat)
   case atStart=>exact⟨0,[],by omega,rfl,List.Pairwise.nil,fun x=>by simp,Nat.le_refl _,Cs.nil _ _ _,Below.refl _ _⟩
   case round=>
    obtain⟨i,acc,hi,rfl,has,hS,kJ,ho,hb⟩:=hrel;have hN:=Hd has;have hD:=Hd hS;have hM:=Hd kJ;have hA:=Hd (And.intro ho hb);obtain⟨vs,kQ,-⟩:=ho;obtain⟨A2,c2,rfl,-⟩:=Gx kQ;clear kQ hb has hS kJ;by_cases hU:i<F.length
    ·have t1:decide ((i:Int)<(F.length:Int))=true:=(by simp;omega);have hG:wrap64 ((i:Int)+1)=((i+1:Nat):Int):=Ba (by omega);have HM:=Hd (Bg hU);have aB:=kS.o (by omega);obtain⟨cs,hB,hC⟩:=kU.o i hU;have hQ:=Hd (Hq (q:=fun t=>!Ct qn qs t) hU);subst aB;generalize F[i]=t at hB hQ;obtain⟨k2,s2,n2,hI,hH,hJ⟩:=t;have KP:=Hd (Px hA.o.1 hN.o (hB.later hT.o) hA.o.2 (by have:=hM.o;have:=kC.o;omega));unfold Gs at KP;obtain⟨Aq,cq,Ag,cg,Ah,ch,rfl,-⟩:=hB.inv;have hR:Z9 (i+1<=F.length):=Hd hU;have y0:=Aa hA.o.2 (hC 0 _ rfl);have y1:=Aa hA.o.2 (hC 1 _ rfl);have y2:=Aa hA.o.2 (hC 2 _ rfl);have y3:=Aa hA.o.2 (hC 3 _ rfl);have y4:=Aa hA.o.2 (hC 4 _ rfl);have y5:=Aa hA.o.2 (hC 5 _ rfl);rw[Nat.add_zero]at y0;simp only[Az]at KP;clear hi hC hB;by_cases h9:k2=9
     ·have g9:(k2 == 9)=true:=(by simpa using h9);have g10:(k2 == 10)=false:=by subst h9;rfl
      cases qn with
      | true=>
       have HQ:Z9 ((!Ct true qs (.mk k2 s2 n2 hI hH hJ))=false):=Hd (by simp[Ct,Ty.k,h9]);clear h9 KP;go_wp2_with fail;refine⟨⟨i+1,acc,hR.o,by first|rfl|rw[hG],hN.o,fun x=>?p1,Nat.le_succ_of_le hM.o,hA.o.1,hA.o.2⟩,?p3⟩
       case p1=>rw[hQ.o,HQ.o];simpa using hD.o x
       case p3=>first|exact HM.o|(rw[hG];exact HM.o)
      | false=>
       have HQ:Z9 ((!Ct false qs (.mk k2 s2 n2 hI hH hJ))=true):=Hd (by simp[Ct,Ty.k,h9]);clear h9;go_wp2_with fail;refine KP.o.mono ?_;rintro e w2 ⟨v2,rfl,hF,hE⟩;have hK:=Hd (And.intro hF hE);clear hF hE KP y0 y1 y2 y3 y4 y5;go_wp2_with fail;refine⟨⟨i+1,_,hR.o,by first|rfl|rw[hG],D3 _ hN.o,fun x=>?p1,?p2,hK.o.1,hK.o.2⟩,?p3⟩
       case p1=>rw[hQ.o,HQ.o,Dw,hD.o];simp[or_comm]
       case p2=>exact Nat.le_trans (Ex _ _) (Nat.succ_le_succ hM.o)
       case p3=>first|exact HM.o|(rw[hG];exact HM.o)
     ·have g9:(k2 == 9)=false:=(by simpa using h9);by_cases hP:k2=10
      ·have g10:(k2 == 10)=true:=by simpa using hP
       cases qs with
       | true=>
        have HQ:Z9 ((!Ct qn true (.mk k2 s2 n2 hI hH hJ))=false):=Hd (by simp[Ct,Ty.k,hP]);clear h9 hP KP;go_wp2_with fail;refine⟨⟨i+1,acc,hR.o,by first|rfl|rw[hG],hN.o,fun x=>?p1,Nat.le_succ_of_le hM.o,hA.o.1,hA.o.2⟩,?p3⟩
        case p1=>rw[hQ.o,HQ.o];simpa using hD.o x
        case p3=>first|exact HM.o|(rw[hG];exact HM.o)
       | false=>
        have HQ:Z9 ((!Ct qn false (.mk k2 s2 n2 hI hH hJ))=true):=Hd (by simp[Ct,Ty.k,h9]);clear h9 hP;go_wp2_with fail;refine KP.o.mono ?_;rintro e w2 ⟨v2,rfl,hF,hE⟩;have hK:=Hd (And.intro hF hE);clear hF hE KP y0 y1 y2 y3 y4 y5;go_wp2_with fail;refine⟨⟨i+1,_,hR.o,by first|rfl|rw[hG],D3 _ hN.o,fun x=>?p1,?p2,hK.o.1,hK.o.2⟩,?p3⟩
        case p1=>rw[hQ.o,HQ.o,Dw,hD.o];simp[or_comm]
        case p2=>exact Nat.le_trans (Ex _ _) (Nat.succ_le_succ hM.o)
        case p3=>first|exact HM.o|(rw[hG];exact HM.o)
      ·have g10:(k2 == 10)=false:=(by simpa using hP);have HQ:Z9 ((!Ct qn qs (.mk k2 s2 n2 hI hH hJ))=true):=Hd (by simp[Ct,Ty.k,h9,hP]);clear h9 hP;go_wp2_with fail;refine KP.o.mono ?_;rintro e w2 ⟨v2,rfl,hF,hE⟩;have hK:=Hd (And.intro hF hE);clear hF hE KP y0 y1 y2 y3 y4 y5;go_wp2_with fail;refine⟨⟨i+1,_,hR.o,by first|rfl|rw[hG],D3 _ hN.o,fun x=>?p1,?p2,hK.o.1,hK.o.2⟩,?p3⟩
       case p1=>rw[hQ.o,HQ.o,Dw,hD.o];simp[or_comm]
       case p2=>exact Nat.le_trans (Ex _ _) (Nat.succ_le_succ hM.o)
       case p3=>first|exact HM.o|(rw[hG];exact HM.o)
    ·have t1:decide ((i:Int)<(F.length:Int))=false:=(by simp;omega);have HE:Z9 (Eh (Gu l)=acc):=Hd (Hh hN.o fun x=>by rw[hD.o,List.take_of_length_le (by omega),kW.o]);have kF:=Hd (hT.o.trans (hA.o.2.mono hT.o.size));have hV:=Hd (kR.o.trans (kF.o.mono kR.o.size));have rb:=Fu aE.o kF.o;have q0:=Ch rb 0;have q1:=Ch rb 1;have q2:=Ch rb 2;have q3:=Ch rb 3;have q4:=Ch rb 4;have q5:=Ch rb 5;have z0:=Lib.frozen_of_heap rb 0;have z1:=Lib.frozen_of_heap rb 1;have z2:=Lib.frozen_of_heap rb 2;have z3:=Lib.frozen_of_heap rb 3;have z4:=Lib.frozen_of_heap rb 4;have z5:=Lib.frozen_of_heap rb 5;have kT:Z9 (acc.length<=1099511627776):=Hd (by have:=hM.o;have:=kC.o;omega);clear hi;have kZ:=Hd (Ks (w:=w) hA.o.1 kG.o hA.o.2 (by have h1:=aA.o;have h2:=hT.o.size;omega) kT.o);rcases acc with _|⟨x,_|⟨y,d⟩⟩
     ·have kO:True:=trivial;have rs:=Cd rb (.int .i64 1) (.string ⟨#[]⟩) (.int .i64 0) (.slice none 0 0) (.slice none 0 0) (.slice none 0 0);have r0:=Ch rs 0;have r1:=Ch rs 1;have r2:=Ch rs 2;have r3:=Ch rs 3;have r4:=Ch rs 4;have r5:=Ch rs 5;clear rb rs;go_wp2_with fail;refine bodyPost_ret (v:=.agg #[.int .i64 1,.string ⟨#[]⟩,.int .i64 0,.slice none 0 0,.slice none 0 0,.slice none 0 0]) (by simp[results,Tryz.results30,go_sem,r0,r1,r2,r3,r4,r5]) rfl ?_;clear r0 r1 r2 r3 r4 r5 q0 q1 q2 q3 q4 q5 z0 z1 z2 z3 z4 z5;rw[HE.o];exact⟨[.int .i64 1,.string ⟨#[]⟩,.int .i64 0,.slice none 0 0,.slice none 0 0,.slice none 0 0],rfl,Jw _ _ 1,B0 hV.o (Nat.le_refl _) _ _ _ _ _ _⟩
     ·obtain⟨g,c3,kB,zz⟩:=Nh hA.o.1;obtain⟨k2,s2,n2,hI,hH,hJ⟩:=x;obtain⟨cs,hB,hC⟩:=zz;obtain⟨Aq,cq,Ag,cg,Ah,ch,rfl,-⟩:=hB.inv;have kH:=Hd hB;simp only[Az]at hC kH;have y0:=hC 0 _ rfl;have y1:=hC 1 _ rfl;have y2:=hC 2 _ rfl;have y3:=hC 3 _ rfl;have y4:=hC 4 _ rfl;have y5:=hC 5 _ rfl;injection kB with kB aK aL
      subst kB;clear hC hB;have rs:=Cd rb (.int .i64 k2) (.string s2) (.int .i64 n2) (.slice Aq hI.length cq) (.slice Ag hH.length cg) (.slice Ah hJ.length ch);have r0:=Ch rs 0;have r1:=Ch rs 1;have r2:=Ch rs 2;have r3:=Ch rs 3;have r4:=Ch rs 4;have r5:=Ch rs 5;clear rb rs;go_wp2_with fail;refine bodyPost_ret (v:=.agg #[.int .i64 k2,.string s2,.int .i64 n2,.slice Aq hI.length cq,.slice Ag hH.length cg,.slice Ah hJ.length ch]) (by simp[results,Tryz.results30,go_sem,r0,r1,r2,r3,r4,r5]) rfl ?_;clear r0 r1 r2 r3 r4 r5 q0 q1 q2 q3 q4 q5 z0 z1 z2 z3 z4 z5;rw[HE.o];exact⟨[.int .i64 k2,.string s2,.int .i64 n2,.slice Aq hI.length cq,.slice Ag hH.length cg,.slice Ah hJ.length ch],rfl,Ix kH.o kG.o hA.o.2 _ _ _ _ _ _,B0 hV.o (Nat.le_refl _) _ _ _ _ _ _⟩
     ·have kL:((x :: y :: d).length:Int)≠0:=(by simp;omega);have kM:((x :: y :: d).length:Int)≠1:=(by simp;omega);have te0:(((x :: y :: d).length:Int) == 0)=false:=(by simpa using kL);have te1:(((x :: y :: d).length:Int) == 1)=false:=(by simpa using kM);have kP:Jz (x :: y :: d)=.mk 15 Bv 0 (x :: y :: d) [] []:=rfl;clear kL kM;generalize x :: y :: d=dd at *;have kY:=Hd kP;clear kP;have rs:=Cd rb (.int .i64 15) (.string ⟨#[]⟩) (.int .i64 0) (.slice A2 dd.length c2) (.slice none 0 0) (.slice none 0 0);have r0:=Ch rs 0;have r1:=Ch rs 1;have r2:=Ch rs 2;have r3:=Ch rs 3;have r4:=Ch rs 4;have r5:=Ch rs 5;clear rb rs;go_wp2_with fail;refine bodyPost_ret (v:=.agg #[.int .i64 15,.string ⟨#[]⟩,.int .i64 0,.slice A2 dd.length c2,.slice none 0 0,.slice none 0 0]) (by simp[results,Tryz.results30,go_sem,r0,r1,r2,r3,r4,r5]) rfl ?_;clear r0 r1 r2 r3 r4 r5 q0 q1 q2 q3 q4 q5 z0 z1 z2 z3 z4 z5;rw[HE.o,kY.o];exact⟨[.int .i64 15,.string ⟨#[]⟩,.int .i64 0,.slice A2 dd.length c2,.slice none 0 0,.slice none 0 0],rfl,kZ.o _ _ _ _ _ _,B0 hV.o (Nat.le_refl _) _ _ _ _ _ _⟩
  | false=>
   have kN:E4 l=No l:=by rw[No,h3,h2,if_neg (by decide),if_neg (by decide)]
   have kC:Z9 ((E4 l).length<=1099511627776):=Hd (by have:=kE.o;omega);generalize E4 l=F at *;have kV:=Hd kN;have hT:=kD;have hO:=kX;have A1:=A0;clear kN h3 h2 HN kE A1;have hW:=Hd (Gt (c:=c0) hO.o 7);have hX:=Hd (Gt (c:=c0) hO.o 8);obtain⟨qn,hZ⟩:∃q,q=D6 7 F:=⟨_,rfl⟩;obtain⟨qs,kA⟩:∃q,q=D6 8 F:=⟨_,rfl⟩;rw[<-hZ]at hW;rw[<-kA]at hX;have kW:Z9 (Gu l=F.filter fun t=>!Ct qn qs t):=Hd (by rw[Gu,<-kV.o,<-hZ,<-kA]);clear hZ kA;go_wp2_with fail;refine hW.o.mono ?_;rintro e wa ⟨rfl,rfl⟩;go_wp2_with fail;refine hX.o.mono ?_;rintro e wd ⟨rfl,rfl⟩;go_wp2_with fail;obtain⟨b,kI,aI,kK⟩:=hO.o;have kS:=Hd kI;have kU:=Hd kK;clear kI kK hW hX
   go_loopw [6,7] (fun ov iv wr=>∃(i:Nat) (acc:List Ty),i<=F.length/\iv=.int .i64 i/\Lm acc/\(∀x,x∈acc↔x∈(F.take i).filter fun t=>!Ct qn qs t)/\acc.length<=i/\Cs K wd wr ov acc/\Below wd.heap.size wd wr) (fun _ v _=>F.length - (intOf v).toNat)
   case atStart=>exact⟨0,[],by omega,rfl,List.Pairwise.nil,fun x=>by simp,Nat.le_refl _,Cs.nil _ _ _,Below.refl _ _⟩
   case round=>
    obtain⟨i,acc,hi,rfl,has,hS,kJ,ho,hb⟩:=hrel;have hN:=Hd has;have hD:=Hd hS;have hM:=Hd kJ;have hA:=Hd (And.intro ho hb);obtain⟨vs,kQ,-⟩:=ho;obtain⟨A2,c2,rfl,-⟩:=Gx kQ;clear kQ hb has hS kJ;by_cases hU:i<F.length
    ·have t1:decide ((i:Int)<(F.length:Int))=true:=(by simp;omega);have hG:wrap64 ((i:Int)+1)=((i+1:Nat):Int):=Ba (by omega);have HM:=Hd (Bg hU);have aB:=kS.o (by omega);obtain⟨cs,hB,hC⟩:=kU.o i hU;have hQ:=Hd (Hq (q:=fun t=>!Ct qn qs t) hU);subst aB;generalize F[i]=t at hB hQ;obtain⟨k2,s2,n2,hI,hH,hJ⟩:=t;have KP:=Hd (Px hA.o.1 hN.o (hB.later hT.o) hA.o.2 (by have:=hM.o;have:=kC.o;omega));unfold Gs at KP;obtain⟨Aq,cq,Ag,cg,Ah,ch,rfl,-⟩:=hB.inv;have hR:Z9 (i+1<=F.length):=Hd hU;have y0:=Aa hA.o.2 (hC 0 _ rfl);have y1:=Aa hA.o.2 (hC 1 _ rfl);have y2:=Aa hA.o.2 (hC 2 _ rfl);have y3:=Aa hA.o.2 (hC 3 _ rfl);have y4:=Aa hA.o.2 (hC 4 _ rfl);have y5:=Aa hA.o.2 (hC 5 _ rfl);rw[Nat.add_zero]at y0;simp only[Az]at KP;clear hi hC hB;by_cases h9:k2=9
     ·have g9:(k2 == 9)=true:=(by simpa using h9);have g10:(k2 == 10)=false:=by subst h9;rfl
      cases qn with
      | true=>
       have HQ:Z9 ((!Ct true qs (.mk k2 s2 n2 hI hH hJ))=false):=Hd (by simp[Ct,Ty.k,h9]);clear h9 KP;go_wp2_with fail;refine⟨⟨i+1,acc,hR.o,by first|rfl|rw[hG],hN.o,fun x=>?p1,Nat.le_succ_of_le hM.o,hA.o.1,hA.o.2⟩,?p3⟩
       case p1=>rw[hQ.o,HQ.o];simpa using hD.o x
       case p3=>first|exact HM.o|(rw[hG];exact HM.o)
      | false=>
       have HQ:Z9 ((!Ct false qs (.mk k2 s2 n2 hI hH hJ))=true):=Hd (by simp[Ct,Ty.k,h9]);clear h9;go_wp2_with fail;refine KP.o.mono ?_;rintro e w2 ⟨v2,rfl,hF,hE⟩;have hK:=Hd (And.intro hF hE);clear hF hE KP y0 y1 y2 y3 y4 y5;go_wp2_with fail;refine⟨⟨i+1,_,hR.o,by first|rfl|rw[hG],D3 _ hN.o,fun x=>?p1,?p2,hK.o.1,hK.o.2⟩,?p3⟩
       case p1=>rw[hQ.o,HQ.o,Dw,hD.o];simp[or_comm]
       case p2=>exact Nat.le_trans (Ex _ _) (Nat.succ_le_succ hM.o)
       case p3=>first|exact HM.o|(rw[hG];exact HM.o)
     ·have g9:(k2 == 9)=false:=(by simpa using h9);by_cases hP:k2=10
      ·have g10:(k2 == 10)=true:=by simpa using hP
       cases qs with
       | true=>
        have HQ:Z9 ((!Ct qn true (.mk k2 s2 n2 hI hH hJ))=false):=Hd (by simp[Ct,Ty.k,hP]);clear h9 hP KP;go_wp2_with fail;refine⟨⟨i+1,acc,hR.o,by first|rfl|rw[hG],hN.o,fun x=>?p1,Nat.le_succ_of_le hM.o,hA.o.1,hA.o.2⟩,?p3⟩
        case p1=>rw[hQ.o,HQ.o];simpa using hD.o x
        case p3=>first|exact HM.o|(rw[hG];exact HM.o)
       | false=>
        have HQ:Z9 ((!Ct qn false (.mk k2 s2 n2 hI hH hJ))=true):=Hd (by simp[Ct,Ty.k,h9]);clear h9 hP;go_wp2_with fail;refine KP.o.mono ?_;rintro e w2 ⟨v2,rfl,hF,hE⟩;have hK:=Hd (And.intro hF hE);clear hF hE KP y0 y1 y2 y3 y4 y5;go_wp2_with fail;refine⟨⟨i+1,_,hR.o,by first|rfl|rw[hG],D3 _ hN.o,fun x=>?p1,?p2,hK.o.1,hK.o.2⟩,?p3⟩
        case p1=>rw[hQ.o,HQ.o,Dw,hD.o];simp[or_comm]
        case p2=>exact Nat.le_trans (Ex _ _) (Nat.succ_le_succ hM.o)
        case p3=>first|exact HM.o|(rw[hG];exact HM.o)
      ·have g10:(k2 == 10)=false:=(by simpa using hP);have HQ:Z9 ((!Ct qn qs (.mk k2 s2 n2 hI hH hJ))=true):=Hd (by simp[Ct,Ty.k,h9,hP]);clear h9 hP;go_wp2_with fail;refine KP.o.mono ?_;rintro e w2 ⟨v2,rfl,hF,hE⟩;have hK:=Hd (And.intro hF hE);clear hF hE KP y0 y1 y2 y3 y4 y5;go_wp2_with fail;refine⟨⟨i+1,_,hR.o,by first|rfl|rw[hG],D3 _ hN.o,fun x=>?p1,?p2,hK.o.1,hK.o.2⟩,?p3⟩
       case p1=>rw[hQ.o,HQ.o,Dw,hD.o];simp[or_comm]
       case p2=>exact Nat.le_trans (Ex _ _) (Nat.succ_le_succ hM.o)
       case p3=>first|exact HM.o|(rw[hG];exact HM.o)
    ·have t1:decide ((i:Int)<(F.length:Int))=false:=(by simp;omega);have HE:Z9 (Eh (Gu l)=acc):=Hd (Hh hN.o fun x=>by rw[hD.o,List.take_of_length_le (by omega),kW.o]);have kF:=Hd (hT.o.trans (hA.o.2.mono hT.o.size));have hV:=Hd (kR.o.trans (kF.o.mono kR.o.size));have rb:=Fu aE.o kF.o;have q0:=Ch rb 0;have q1:=Ch rb 1;have q2:=Ch rb 2;have q3:=Ch rb 3;have q4:=Ch rb 4;have q5:=Ch rb 5;have z0:=Lib.frozen_of_heap rb 0;have z1:=Lib.frozen_of_heap rb 1;have z2:=Lib.frozen_of_heap rb 2;have z3:=Lib.frozen_of_heap rb 3;have z4:=Lib.frozen_of_heap rb 4;have z5:=Lib.frozen_of_heap rb 5;have kT:Z9 (acc.length<=1099511627776):=Hd (by have:=hM.o;have:=kC.o;omega);clear hi;have kZ:=Hd (Ks (w:=w) hA.o.1 kG.o hA.o.2 (by have h1:=aA.o;have h2:=hT.o.size;omega) kT.o);rcases acc with _|⟨x,_|⟨y,d⟩⟩
     ·have kO:True:=trivial;have rs:=Cd rb (.int .i64 1) (.string ⟨#[]⟩) (.int .i64 0) (.slice none 0 0) (.slice none 0 0) (.slice none 0 0);have r0:=Ch rs 0;have r1:=Ch rs 1;have r2:=Ch rs 2;have r3:=Ch rs 3;have r4:=Ch rs 4;have r5:=Ch rs 5;clear rb rs;go_wp2_with fail;refine bodyPost_ret (v:=.agg #[.int .i64 1,.string ⟨#[]⟩,.int .i64 0,.slice none 0 0,.slice none 0 0,.slice none 0 0]) (by simp[results,Tryz.results30,go_sem,r0,r1,r2,r3,r4,r5]) rfl ?_;clear r0 r1 r2 r3 r4 r5 q0 q1 q2 q3 q4 q5 z0 z1 z2 z3 z4 z5;rw[HE.o];exact⟨[.int .i64 1,.string ⟨#[]⟩,.int .i64 0,.slice none 0 0,.slice none 0 0,.slice none 0 0],rfl,Jw _ _ 1,B0 hV.o (Nat.le_refl _) _ _ _ _ _ _⟩
     ·obtain⟨g,c3,kB,zz⟩:=Nh hA.o.1;obtain⟨k2,s2,n2,hI,hH,hJ⟩:=x;obtain⟨cs,hB,hC⟩:=zz;obtain⟨Aq,cq,Ag,cg,Ah,ch,rfl,-⟩:=hB.inv;have kH:=Hd hB;simp only[Az]at hC kH;have y0:=hC 0 _ rfl;have y1:=hC 1 _ rfl;have y2:=hC 2 _ rfl;have y3:=hC 3 _ rfl;have y4:=hC 4 _ rfl;have y5:=hC 5 _ rfl;injection kB with kB aK aL
      subst kB;clear hC hB;have rs:=Cd rb (.int .i64 k2) (.string s2) (.int .i64 n2) (.slice Aq hI.length cq) (.slice Ag hH.length cg) (.slice Ah hJ.length ch);have r0:=Ch rs 0;have r1:=Ch rs 1;have r2:=Ch rs 2;have r3:=Ch rs 3;have r4:=Ch rs 4;have r5:=Ch rs 5;clear rb rs;go_wp2_with fail;refine bodyPost_ret (v:=.agg #[.int .i64 k2,.string s2,.int .i64 n2,.slice Aq hI.length cq,.slice Ag hH.length cg,.slice Ah hJ.length ch]) (by simp[results,Tryz.results30,go_sem,r0,r1,r2,r3,r4,r5]) rfl ?_;clear r0 r1 r2 r3 r4 r5 q0 q1 q2 q3 q4 q5 z0 z1 z2 z3 z4 z5;rw[HE.o];exact⟨[.int .i64 k2,.string s2,.int .i64 n2,.slice Aq hI.length cq,.slice Ag hH.length cg,.slice Ah hJ.length ch],rfl,Ix kH.o kG.o hA.o.2 _ _ _ _ _ _,B0 hV.o (Nat.le_refl _) _ _ _ _ _ _⟩
     ·have kL:((x :: y :: d).length:Int)≠0:=(by simp;omega);have kM:((x :: y :: d).length:Int)≠1:=(by simp;omega);have te0:(((x :: y :: d).length:Int) == 0)=false:=(by simpa using kL);have te1:(((x :: y :: d).length:Int) == 1)=false:=(by simpa using kM);have kP:Jz (x :: y :: d)=.mk 15 Bv 0 (x :: y :: d) [] []:=rfl;clear kL kM;generalize x :: y :: d=dd at *;have kY:=Hd kP;clear kP;have rs:=Cd rb (.int .i64 15) (.string ⟨#[]⟩) (.int .i64 0) (.slice A2 dd.length c2) (.slice none 0 0) (.slice none 0 0);have r0:=Ch rs 0;have r1:=Ch rs 1;have r2:=Ch rs 2;have r3:=Ch rs 3;have r4:=Ch rs 4;have r5:=Ch rs 5;clear rb rs;go_wp2_with fail;refine bodyPost_ret (v:=.agg #[.int .i64 15,.string ⟨#[]⟩,.int .i64 0,.slice A2 dd.length c2,.slice none 0 0,.slice none 0 0]) (by simp[results,Tryz.results30,go_sem,r0,r1,r2,r3,r4,r5]) rfl ?_;clear r0 r1 r2 r3 r4 r5 q0 q1 q2 q3 q4 q5 z0 z1 z2 z3 z4 z5;rw[HE.o,kY.o];exact⟨[.int .i64 15,.string ⟨#[]⟩,.int .i64 0,.slice A2 dd.length c2,.slice none 0 0,.slice none 0 0],rfl,kZ.o _ _ _ _ _ _,B0 hV.o (Nat.le_refl _) _ _ _ _ _ _⟩
