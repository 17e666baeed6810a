import Derived.Test.YtlpfpehegddcfaaGreatDoorMw25
namespace Go.Proofs.YtlpfpehegddcfaaGreatDoor
set_option maxRecDepth 100000
set_option maxHeartbeats 64000000
open Go.RowKit
theorem K6 {n:Int}(h:0<=n) (h':n<9223372036854775808):wrap64 n=n:=by
 have e:IntKind.i64.wrap n=wrap64 n:=by unfold wrap64;exact IntKind.wrap_i64 n
 rw[<-e];simp[IntKind.wrap,IntKind.bits,IntKind.signed];omega
theorem Jdd {l:List Z8}{i:Nat}(h:i<l.length) (x:Z8):cI (l.drop i) x=cI (l.drop (i+1)) x+(if l[i]=x then 1 else 0):=by
 rw[List.drop_eq_getElem_cons h,Jdc]
theorem Ja2 (x:Z8) {l:List Ty}{i:Nat}(h:i<l.length):It x (l.take (i+1))=(It x (l.take i) || Bx x l[i]):=by
 unfold It;rw[List.take_succ_eq_append_getElem h,List.any_append];simp
theorem Et {K:Nat->Prop}{U N:List Z8}{g mb mf:Nat}{w:World}{c:Z8->Nat}{S:Z8->Bool}{AN:Option Addr}{cN:Nat}{ps:List Ty}{A:Option Addr}{cp:Nat}{B:Nat}(hN:Cm w N AN) (hZ:∀b o,AN=some ⟨b,o,none⟩->b≠mb/\b≠mf) (hL:Bh K w ps A cp) (hK:∀x,K x->x<w.heap.size/\x≠mb/\x≠mf) (hS:F3 U w g mb mf c S) (kL:∀x∈N,x∈U/\x.size<=maxLen) (hU:U.length<maxLen)
  (hB:∀x,c x+cI N x<=B) (kK:B<=9000000000000000000) (hI:∀p∈ps,(∀x∈Fp p,x∈U)/\(Ai p=true/\Dy p=true)/\B+Am p*1000000000000002<=9000000000000000000) (ih:∀p∈ps,Nk p) :
  Calls Tryz.prog 187 #[.pointer (some ⟨g,0,none⟩),.slice AN N.length cN,.slice A ps.length cp] w (Jx U g mb mf w c S fun x=>!Dp N x && It x ps):=by
 have HN:=Hd hN;have kT:=Hd hZ;have HL:=Hd hL;have HK:=Hd hK;have HS:=Hd hS;have kI:=Hd kL;have HU:=Hd hU;have HB:=Hd hB;have kF:=Hd kK;have kO:=Hd hI;have kP:=Hd ih;have kH:Z9 (N.length<=1000000000000000):=Hd (by obtain⟨_,_,_,h,_⟩:=hN;exact h);have kQ:=Hd hL.short;have kG:Z9 (∀wx,Ad (fun x=>x=mb\/x=mf) w wx->Cm wx N AN):=Hd fun wx hx=>hN.but hx fun b o e h=>h.elim (hZ b o e).1 (hZ b o e).2;clear hN hZ hL hK hS kL hU hB kK hI ih;go_enter Tryz.func187,Tryz.ntmps187;go_wp2_with fail
 go_loopw [13] (fun v wr=>∃i:Nat,i<=N.length/\v=.int .i64 i/\F3 U wr g mb mf (fun x=>c x+cI (N.take i) x) S/\Ad (fun x=>x=mb\/x=mf) w wr) (fun v _=>N.length - (intOf v).toNat)
 case atStart=>exact⟨0,Nat.zero_le _,rfl,HS.o.same (fun x=>by simp[cI]) (fun _=>rfl),Ad.refl _ _⟩
 case round=>
  obtain⟨i,hi,rfl,hE,hD⟩:=hrel;have hX:=kH.o;by_cases hC:i<N.length
  ·have t1:decide ((i:Int)<(N.length:Int))=true:=by simp;omega
   have hP:wrap64 ((i:Int)+1)=((i+1:Nat):Int):=Ax (by omega);have HM:=Hd (Bf hC);have hT:Z9 (i+1<=N.length):=Hd hC;have hG:=Hd hD;obtain⟨nb,no,hW,-,hJ⟩:=kG.o wr hD;have hA:=hW (by omega);subst hA;have z0:=hJ i hC;have hH:∀x,cI (N.take (i+1)) x=cI (N.take i) x+(if (N[i]'hC)=x then 1 else 0):=fun x=>by rw[List.take_succ_eq_append_getElem hC,Jde]
   have hu:=kI.o _ (List.getElem_mem hC);have hF:c (N[i]'hC)+(cI (N.take i) (N[i]'hC)+1)<=9000000000000000000:=by
    have h1:=HB.o (N[i]'hC);have h2:=kF.o;have h3:cI (N.take (i+1)) (N[i]'hC)<=cI N (N[i]'hC):=(List.take_sublist (i+1) N).countP_le;rw[hH,if_pos rfl]at h3;omega
   generalize (N[i]'hC)=s at z0 hH hu hF;obtain⟨v1,hY⟩:∃v1,v1=c s+cI (N.take i) s:=⟨_,rfl⟩;obtain⟨v2,kE⟩:∃v2,v2=v1+1:=⟨_,rfl⟩;have lk:(Instr.lookup 185 (.map (some mb)) (.string s) false).run Tryz.prog wr=.ok (.int .i64 (v1:Int)) wr:=by rw[hY];exact hE.look s hu.2
   obtain⟨y0,-⟩:=hE.cell;have kS:wrap64 ((v1:Int)+1)=(v2:Int):=by rw[K6 (by omega) (by omega)];omega
   obtain⟨w3,kR,hO,hM⟩:=hE.put HU.o s hu.1 hu.2 v2;have hV:Z9 (F3 U w3 g mb mf (fun x=>c x+cI (N.take (i+1)) x) S):=Hd (hO.same (fun x=>by
    rw[hH];by_cases e:s=x
    ·subst e;rw[if_pos rfl,if_pos rfl];omega
    ·rw[if_neg e,if_neg e];rfl) fun _=>rfl)
   have hR:Z9 (Ad (fun x=>x=mb\/x=mf) w w3):=Hd (hD.trans hM fun x h=>.inl (.inl h));have i1:(0:Int)<=(i:Int):=by omega
   have i2:(i:Int)<(N.length:Int):=by omega
   clear hi hE hD hJ hW hH hu hF hO hM hX hY kE;go_wp2_with fail;refine⟨⟨i+1,hT.o,by first|rfl|rw[hP],hV.o,hR.o⟩,?_⟩;first|exact HM.o|(rw[hP];exact HM.o)
  ·have t1:decide ((i:Int)<(N.length:Int))=false:=by simp;omega
   obtain rfl:i=N.length:=by omega
   rw[List.take_length]at hE;have hQ:=Hd hE;have hG:=Hd hD;clear hi hC hE hD hX;go_wp2_with fail
   go_loopw [27] (fun v wx=>∃i:Nat,i<=ps.length/\v=.int .i64 i/\F3 U wx g mb mf (fun x=>c x+cI N x) (fun x=>S x || (decide (c x+cI N x=0) && It x (ps.take i)))/\Ad (fun x=>x=mb\/x=mf) w wx) (fun v _=>ps.length - (intOf v).toNat)
   case atStart=>exact⟨0,Nat.zero_le _,rfl,hQ.o.same (fun _=>rfl) (fun x=>by simp[It]),hG.o⟩
   case round=>
    clear hQ hG;obtain⟨i,hi,rfl,hE,hD⟩:=hrel;have kN:=kQ.o;by_cases hC:i<ps.length
    ·have t1:decide ((i:Int)<(ps.length:Int))=true:=(by simp;omega);have hP:wrap64 ((i:Int)+1)=((i+1:Nat):Int):=Ax (by omega);have HM:=Hd (Bf hC);have hT:Z9 (i+1<=ps.length):=Hd hC;have hG:=Hd hD;have kM:∀x,K x->¬ (x=mb\/x=mf)/\K x:=fun x hx=>⟨fun e=>e.elim (HK.o x hx).2.1 (HK.o x hx).2.2,hx⟩;obtain⟨tb,tq,hA,kA,hJ⟩:=(HL.o.but hD kM).at (Nat.lt_of_le_of_lt (Nat.zero_le i) hC);subst hA;have hp:=hJ i hC;have hI:=kO.o _ (List.getElem_mem hC);have kB:=kP.o _ (List.getElem_mem hC);have kC:=fun x=>Ja2 x hC;generalize (ps[i]'hC)=p at hp hI kB kC;have KW:=Hd (kB K U g mb mf _ tb (tq+i*6) _ _ hp ⟨(HK.o tb kA).2.1,(HK.o tb kA).2.2⟩ (fun x hx=>⟨Nat.lt_of_lt_of_le (HK.o x hx).1 hD.size,(HK.o x hx).2⟩) hE hI.1 HU.o (fun x=>by have h1:=HB.o x;have h2:=hI.2.2;omega) hI.2.1.1 hI.2.1.2);have kJ:=Hd kC;have i1:(0:Int)<=(i:Int):=(by omega);have i2:(i:Int)<(ps.length:Int):=(by omega);clear hi hE hD hJ hp hI kB kC kN kA kM;go_wp2_with fail;refine KW.o.mono ?_;rintro e w3 ⟨rfl,hO,hM⟩;have hV:Z9 (F3 U w3 g mb mf (fun x=>c x+cI N x) (fun x=>S x || (decide (c x+cI N x=0) && It x (ps.take (i+1))))):=Hd (hO.same (fun _=>rfl) fun x=>by
      rw[kJ.o];dsimp only;generalize decide (c x+cI N x=0)=d1;generalize It x (ps.take i)=d2;generalize Bx x p=d3
      cases S x <;> cases d1 <;> cases d2 <;> cases d3 <;> rfl)
     have hR:Z9 (Ad (fun x=>x=mb\/x=mf) w w3):=Hd (hG.o.trans hM fun x h=>.inl h);clear hO hM KW kJ;go_wp2_with fail;refine⟨⟨i+1,hT.o,by first|rfl|rw[hP],hV.o,hR.o⟩,?_⟩;first|exact HM.o|(rw[hP];exact HM.o)
    ·have t1:decide ((i:Int)<(ps.length:Int))=false:=(by simp;omega);obtain rfl:i=ps.length:=by omega
     rw[List.take_length]at hE;have hQ:=Hd hE;have hG:=Hd hD;clear hi hC hE hD kN;go_wp2_with fail
     go_loopw [38] (fun v wy=>∃i:Nat,i<=N.length/\v=.int .i64 i/\F3 U wy g mb mf (fun x=>c x+cI (N.drop i) x) (fun x=>S x || (decide (c x+cI N x=0) && It x ps))/\Ad (fun x=>x=mb\/x=mf) w wy) (fun v _=>N.length - (intOf v).toNat)
     case atStart=>exact⟨0,Nat.zero_le _,rfl,hQ.o.same (fun x=>by simp) (fun _=>rfl),hG.o⟩
     case round=>
      clear hQ hG;obtain⟨i,hi,rfl,hE,hD⟩:=hrel;have hX:=kH.o;by_cases hC:i<N.length
      ·have t1:decide ((i:Int)<(N.length:Int))=true:=(by simp;omega);have hP:wrap64 ((i:Int)+1)=((i+1:Nat):Int):=Ax (by omega);have HM:=Hd (Bf hC);have hT:Z9 (i+1<=N.length):=Hd hC;have hG:=Hd hD;obtain⟨nb,no,hW,-,hJ⟩:=kG.o _ hD;have hA:=hW (by omega);subst hA;have z0:=hJ i hC;have hH:=fun x=>Jdd hC x;have hu:=kI.o _ (List.getElem_mem hC);have hF:c (N[i]'hC)+cI (N.drop i) (N[i]'hC)<=9000000000000000000:=by
        have h1:=HB.o (N[i]'hC);have h2:=kF.o;have h3:cI (N.drop i) (N[i]'hC)<=cI N (N[i]'hC):=(List.drop_sublist i N).countP_le;omega
       generalize (N[i]'hC)=s at z0 hH hu hF;have kD:1<=cI (N.drop i) s:=(by rw[hH,if_pos rfl];omega);obtain⟨v1,hY⟩:∃v1,v1=c s+cI (N.drop i) s:=⟨_,rfl⟩;obtain⟨v2,kE⟩:∃v2,v2=v1 - 1:=⟨_,rfl⟩;have lk:(Instr.lookup 185 (.map (some mb)) (.string s) false).run Tryz.prog wr=.ok (.int .i64 (v1:Int)) wr:=(by rw[hY];exact hE.look s hu.2);obtain⟨y0,-⟩:=hE.cell;have kS:wrap64 ((v1:Int) - 1)=(v2:Int):=(by rw[K6 (by omega) (by omega)];omega);obtain⟨w3,kR,hO,hM⟩:=hE.put HU.o s hu.1 hu.2 v2;have hV:Z9 (F3 U w3 g mb mf (fun x=>c x+cI (N.drop (i+1)) x) (fun x=>S x || (decide (c x+cI N x=0) && It x ps))):=Hd (hO.same (fun x=>by
        by_cases e:s=x
        ·subst e;have h9:=hH s;rw[if_pos rfl]at h9 ⊢;omega
        ·have h9:=hH x;rw[if_neg e]at h9 ⊢;omega) fun _=>rfl)
       have hR:Z9 (Ad (fun x=>x=mb\/x=mf) w w3):=Hd (hD.trans hM fun x h=>.inl (.inl h));have i1:(0:Int)<=(i:Int):=(by omega);have i2:(i:Int)<(N.length:Int):=(by omega);clear hi hE hD hJ hW hH hu hF hO hM hX kD hY kE;go_wp2_with fail;refine⟨⟨i+1,hT.o,by first|rfl|rw[hP],hV.o,hR.o⟩,?_⟩;first|exact HM.o|(rw[hP];exact HM.o)
      ·have t1:decide ((i:Int)<(N.length:Int))=false:=(by simp;omega);obtain rfl:i=N.length:=by omega
       have hQ:Z9 (F3 U wr g mb mf c (fun x=>S x || (decide (c x=0) && (!Dp N x && It x ps)))):=Hd (hE.same (fun x=>by simp[cI]) fun x=>by
        have h:=Jgn N x;by_cases h1:c x=0
        ·rw[h1,Nat.zero_add,h];simp
        ·have:¬ (c x+cI N x=0):=by omega
         simp[h1])
       have hG:=Hd hD;clear hi hC hE hD hX;go_wp2_with fail
       go_end0
       exact⟨rfl,hQ.o,hG.o⟩
structure Rj (P:Nat->Prop) (w:World) (g:Nat) (l:Bv):Prop where
 lt:g<w.heap.size
 cell:∀y,y<l.length*8->∃v,w.cell? ⟨g,y,none⟩=some v
 free:∀y,w.frozen? ⟨g,y,none⟩=false
 reps:∀i (h:i<l.length),w.cell? ⟨g,i*8,none⟩=some (.string l[i].1)/\w.cell? ⟨g,i*8+1,none⟩=some (.int .i64 l[i].2.1)/\l[i].1.size<=1000000000000000/\∃cs,An P w l[i].2.2 cs/\∀j u,cs[j]?=some u->w.cell? ⟨g,i*8+2+j,none⟩=some u
theorem Rj.weak {P P':Nat->Prop}{w:World}{g:Nat}{l:Bv}(h:Rj P w g l) (hp:∀x,P x->P' x):Rj P' w g l:=
 ⟨h.lt,h.cell,h.free,fun i hi=>by obtain⟨h1,h2,h3,cs,h4,h5⟩:=h.reps i hi;exact⟨h1,h2,h3,cs,h4.weak hp,h5⟩⟩
theorem Rj.but {P O:Nat->Prop}{w w':World}{g:Nat}{l:Bv}(h:Rj P w g l) (hb:Ad O w w') (hg:¬ O g) (hp:∀x,P x->¬ O x):Rj P w' g l:=
 ⟨Nat.lt_of_lt_of_le h.lt hb.size,fun y hy=>by obtain⟨v,hv⟩:=h.cell y hy;exact⟨v,hb.cell hg hv⟩,fun y=>Km (hb.block g h.lt hg) (h.free y),
  fun i hi=>by obtain⟨h1,h2,h3,cs,h4,h5⟩:=h.reps i hi;exact⟨hb.cell hg h1,hb.cell hg h2,h3,cs,h4.but hb fun x hx=>⟨hp x hx,hx⟩,fun j u hj=>hb.cell hg (h5 j u hj)⟩⟩
theorem Rj.set {P:Nat->Prop}{w:World}{g i:Nat}{l:Bv}{t:Ty}{v0 v1 v2 v3 v4 v5:Value}(h:Rj P w g l) (hP:∀x,P x->x≠g) (hi:i<l.length) (ht:An P w t [v0,v1,v2,v3,v4,v5]):Rj P (E9 w g (i*8+2) v0 v1 v2 v3 v4 v5) g (l.set i ((l[i]'hi).1,(l[i]'hi).2.1,t)):=by
 refine⟨by rw[Ls];exact h.lt,fun y hy=>?_,fun y=>?_,fun k hk=>?_⟩
 ·rw[List.length_set]at hy;exact Bu (Bu (Bu (Bu (Bu (Bu (h.cell y hy))))))
 ·simp only[E9,World.frozen?_setCell];exact h.free y
 ·rw[List.length_set]at hk;obtain⟨h1,h2,h3,cs,h4,h5⟩:=h.reps k hk;have h6:=h4.six;have f1:(E9 w g (i*8+2) v0 v1 v2 v3 v4 v5).cell? ⟨g,k*8,none⟩=w.cell? ⟨g,k*8,none⟩:=I2 (.inr (by show k*8<i*8+2\/i*8+2+6<=k*8;omega));have f2:(E9 w g (i*8+2) v0 v1 v2 v3 v4 v5).cell? ⟨g,k*8+1,none⟩=w.cell? ⟨g,k*8+1,none⟩:=I2 (.inr (by show k*8+1<i*8+2\/i*8+2+6<=k*8+1;omega));by_cases e:i=k
  ·subst e;rw[f1,f2];simp only[List.getElem_set_self];exact⟨h1,h2,h3,_,Kz hP ht,fun j u hj=>Q6 (fun x hx=>h.cell _ (by omega)) j u hj⟩
  ·rw[f1,f2];simp only[List.getElem_set_ne e];refine⟨h1,h2,h3,cs,Kz hP h4,fun j u hj=>?_⟩;have hA:=(List.getElem?_eq_some_iff.1 hj).1;rw[I2 (.inr (by show k*8+2+j<i*8+2\/i*8+2+6<=k*8+2+j;omega))];exact h5 j u hj
theorem Rj.list {P:Nat->Prop}{w:World}{g c:Nat}{l:Bv}(h:Rj P w g l) (hc:l.length<=c) (hl:l.length<=1000000000000000):Du (fun x=>P x\/x=g) w l (some ⟨g,0,none⟩) c:=
 ⟨g,0,⟨hc,hl,(fun h=>by cases h),fun _=>⟨rfl,.inr rfl⟩⟩,fun i hi=>by
  obtain⟨h1,h2,h3,cs,h4,h5⟩:=h.reps i hi;refine⟨by rw[Nat.zero_add];exact h1,by rw[Nat.zero_add];exact h2,h3,cs,fun j u hj=>by rw[Nat.zero_add];exact h5 j u hj,h4.weak fun b hb=>.inl hb⟩⟩
theorem R8 {K:Nat->Prop}{w:World}{b o:Nat}:∀ {l:Bv}(_:∀i (h:i<l.length),w.cell? ⟨b,o+i*8,none⟩=some (.string l[i].1)/\w.cell? ⟨b,o+i*8+1,none⟩=some (.int .i64 l[i].2.1)/\l[i].1.size<=1000000000000000/\Dm K w l[i].2.2 b (o+i*8+2)) (n:Nat),n<=l.length ->
  ∃news:List Value,news.length=n*8/\(∀j u,news[j]?=some u->w.cell? ⟨b,o+j,none⟩=some u)/\(∀u∈news,u.oneCell'=true)/\∀i (h:i<l.length),i<n->news[i*8]?=some (.string l[i].1)/\news[i*8+1]?=some (.int .i64 l[i].2.1)/\∃cs,An K w l[i].2.2 cs/\∀j u,cs[j]?=some u->news[i*8+2+j]?=some u:=by
 intro l h n
 induction n with
 | zero=>intro _;exact⟨[],rfl,fun j u h=>by simp at h,fun u h=>by simp at h,fun i _ h=>absurd h (by omega)⟩
 | succ n ih=>
  intro hn;obtain⟨news,h1,h2,h3,h4⟩:=ih (by omega);obtain⟨hs,hi,-,cs,h5,h6⟩:=h n (by omega);have h7:=h6.six;refine⟨news++(.string (l[n]'(by omega)).1 :: .int .i64 (l[n]'(by omega)).2.1 :: cs),by rw[List.length_append,List.length_cons,List.length_cons];omega,fun j u hj=>?_,fun u hu=>?_,fun i hB hC=>?_⟩
  ·by_cases hA:j<news.length
   ·rw[List.getElem?_append_left hA]at hj;exact h2 j u hj
   ·rw[List.getElem?_append_right (by omega)]at hj;obtain⟨q,hq⟩:∃q,q=j - news.length:=⟨_,rfl⟩;rw[<-hq]at hj;rcases q with _|_|q
    ·obtain rfl:Value.string _=u:=by simpa using hj
     rw[<-hs];congr 2;omega
    ·obtain rfl:Value.int .i64 _=u:=by simpa using hj
     rw[<-hi];congr 2;omega
    ·rw[List.getElem?_cons_succ,List.getElem?_cons_succ]at hj;have:=h5 _ _ hj;rw[<-this];congr 2;omega
  ·rcases List.mem_append.1 hu with hu|hu
   ·exact h3 u hu
   ·rcases List.mem_cons.1 hu with rfl|hu
    ·rfl
    ·rcases List.mem_cons.1 hu with rfl|hu
     ·rfl
     ·exact Lm h6 u hu
  ·by_cases hA:i<n
   ·obtain⟨e1,e2,cs',h8,h9⟩:=h4 i hB hA;have lift:∀j u,news[j]?=some u->(news++(.string (l[n]'(by omega)).1 :: .int .i64 (l[n]'(by omega)).2.1 :: cs))[j]?=some u:=fun j u hj=>by
     rw[List.getElem?_append_left (List.getElem?_eq_some_iff.1 hj).1];exact hj
    exact⟨lift _ _ e1,lift _ _ e2,cs',h8,fun j u hj=>lift _ _ (h9 j u hj)⟩
   ·obtain rfl:i=n:=by omega
    refine⟨?_,?_,cs,h6,fun j u hj=>?_⟩
    ·rw[List.getElem?_append_right (by omega),show i*8 - news.length=0 from by omega];rfl
    ·rw[List.getElem?_append_right (by omega),show i*8+1 - news.length=1 from by omega];rfl
    ·rw[List.getElem?_append_right (by omega),show i*8+2+j - news.length=j+2 from by omega,List.getElem?_cons_succ,List.getElem?_cons_succ];exact hj
theorem Qi {K:Nat->Prop}{w:World}{l:Bv}{b o c:Nat}(hL:∀i (h:i<l.length),w.cell? ⟨b,o+i*8,none⟩=some (.string l[i].1)/\w.cell? ⟨b,o+i*8+1,none⟩=some (.int .i64 l[i].2.1)/\l[i].1.size<=1000000000000000/\Dm K w l[i].2.2 b (o+i*8+2)) (hn:l.length<=1000000) :
  Calls Tryz.prog 67 #[.slice (some ⟨b,o,none⟩) l.length c] w fun e w'=>∃g c',e=.returned (.slice (some ⟨g,0,none⟩) l.length c')/\w.heap.size<=g/\l.length<=c'/\Rj K w' g l/\Below w.heap.size w w':=by
 obtain⟨news,h1,h2,h3,h4⟩:=R8 hL l.length (Nat.le_refl _);refine (Rs ⟨b,o,none⟩ l.length c news w hn h1 h3 fun j u hj=>?_).mono ?_
 ·have e2:((⟨b,o,none⟩:Addr).add j)=⟨b,o+j,none⟩:=by unfold Addr.add;by_cases h0:j=0 <;> simp[h0]
  rw[e2];exact h2 j u hj
 ·rintro e w' ⟨g,c',rfl,hg,hD,hc,hC,hb⟩;refine⟨g,c',rfl,hg,hc,?_,hb⟩;rcases hC.2 with ⟨hv,hz⟩|⟨g',cap,cur,hv,hB,hh,hH,hE,hI,hF⟩
  ·cases hv
  ·injection hv with hv _ _
   injection hv with hv
   injection hv with hv
   subst hv;have hA:∀y u,news[y]?=some u->w'.cell? ⟨g,y,none⟩=some u:=fun y u hy=>by
    rw[<-hF,List.getElem?_take]at hy
    split at hy
    ·rw[Ch hh];simpa using hy
    ·cases hy
   refine⟨hD,fun y hy=>?_,fun y=>Lib.frozen_of_heap hh y,fun i hi=>?_⟩
   ·have hG:y<news.length:=(by omega);exact⟨news[y],hA y _ (List.getElem?_eq_getElem hG)⟩
   ·obtain⟨e1,e2,cs,h5,h6⟩:=h4 i hi hi;exact⟨hA _ _ e1,hA _ _ e2,(hL i hi).2.2.1,cs,h5.later hb,fun j u hj=>hA _ u (h6 j u hj)⟩
theorem Ta {w:World}{B n c z g:Nat}{T:TypeId}{xs:List Value}(h:w.ownsRow B T z (.slice (some ⟨g,0,none⟩) n c) n xs):∀y,w.frozen? ⟨g,y,none⟩=false:=fun y=>by
 rcases h.2 with ⟨hv,hz⟩|⟨g',cap,cur,hv,hB,hh,r⟩
 ·cases hv
 ·injection hv with hv _ _
  injection hv with hv
  injection hv with hv
  subst hv;exact Lib.frozen_of_heap hh y
theorem Rt {K:Nat->Prop}{w:World}{l:List Ty}{A:Option Addr}{c:Nat}(hL:Bh K w l A c) (hn:l.length<=1000000) :
  Calls Tryz.prog 66 #[.slice A l.length c] w fun e w'=>∃A' c',e=.returned (.slice A' l.length c')/\Below w.heap.size w w'/\((l=[]/\A'=none/\c'=0)\/∃g,A'=some ⟨g,0,none⟩/\w.heap.size<=g/\l.length<=c'/\PlT K w' g l):=by
 by_cases h0:0<l.length
 ·obtain⟨b,o,rfl,-,hC⟩:=hL.at h0;refine (Ru hC hn).mono ?_;rintro e w' ⟨g,c',rfl,h1,h2,h3,h4⟩;exact⟨_,c',rfl,h4,.inr ⟨g,rfl,h1,h2,h3⟩⟩
 ·have hl:l=[]:=List.eq_nil_of_length_eq_zero (by omega);subst hl;obtain⟨b,o,hB,-⟩:=hL;rcases A with _|ad
  ·obtain rfl:=hB.none rfl;refine (Kf w).mono ?_;rintro e w' ⟨rfl,rfl⟩;exact⟨none,0,rfl,Below.refl _ _,.inl ⟨rfl,rfl,rfl⟩⟩
  ·refine (Nq ad 0 c [] w (by omega) rfl (fun u hu=>by cases hu) fun j u hj=>by simp at hj).mono ?_;rintro e w' ⟨g,c',rfl,hg,hD,hc,hA,hb⟩;exact⟨_,c',rfl,hb,.inr ⟨g,rfl,hg,hc,⟨hD,fun y hy=>absurd hy (by simp),Ta hA,fun i hi=>absurd hi (by simp)⟩⟩⟩
theorem O1 {K:Nat->Prop}{w:World}{l:Bv}{A:Option Addr}{c:Nat}(hL:Du K w l A c) (hn:l.length<=1000000) :
  Calls Tryz.prog 67 #[.slice A l.length c] w fun e w'=>∃A' c',e=.returned (.slice A' l.length c')/\Below w.heap.size w w'/\((l=[]/\A'=none/\c'=0)\/∃g,A'=some ⟨g,0,none⟩/\w.heap.size<=g/\l.length<=c'/\Rj K w' g l):=by
 by_cases h0:0<l.length
 ·obtain⟨b,o,rfl,-,hC⟩:=hL.at h0;refine (Qi hC hn).mono ?_;rintro e w' ⟨g,c',rfl,h1,h2,h3,h4⟩;exact⟨_,c',rfl,h4,.inr ⟨g,rfl,h1,h2,h3⟩⟩
 ·have hl:l=[]:=List.eq_nil_of_length_eq_zero (by omega);subst hl;obtain⟨b,o,hB,-⟩:=hL;rcases A with _|ad
  ·obtain rfl:=hB.none rfl;refine (Qj w).mono ?_;rintro e w' ⟨rfl,rfl⟩;exact⟨none,0,rfl,Below.refl _ _,.inl ⟨rfl,rfl,rfl⟩⟩
  ·refine (Rs ad 0 c [] w (by omega) rfl (fun u hu=>by cases hu) fun j u hj=>by simp at hj).mono ?_;rintro e w' ⟨g,c',rfl,hg,hD,hc,hA,hb⟩;exact⟨_,c',rfl,hb,.inr ⟨g,rfl,hg,hc,⟨hD,fun y hy=>absurd hy (by simp),Ta hA,fun i hi=>absurd hi (by simp)⟩⟩⟩
theorem Qp {s:Shp}{t:Z8}{n:Int}{np nf nv:Nat}(h:Ar s t n np nf nv=true):(s.f=false->nf=0)/\(s.v=false->nv=0)/\(s.hi=0->np=0):=by
 unfold Ar at h;simp only[Bool.and_eq_true,Bool.not_eq_true',Bool.or_eq_false_iff,Bool.or_eq_true,decide_eq_true_eq,beq_iff_eq]at h;obtain⟨⟨⟨⟨h1,h2⟩,h3⟩,h4⟩,h5,h6⟩:=h;refine⟨fun e=>?_,fun e=>?_,fun e=>by omega⟩
 ·rw[e]at h3;have:decide (0<nf)=false:=by simpa using h3
  have:=of_decide_eq_false this;omega
 ·rw[e]at h4;have:decide (0<nv)=false:=by simpa using h4
  have:=of_decide_eq_false this;omega
theorem Ew {k:Int}{t:Z8}{n:Int}{ps:List Ty}{fs:Bv}{vs:Bw}(h:Ai (.mk k t n ps fs vs)=true):(k≠14->fs.length=0)/\(k≠13->vs.length=0)/\(k=14->ps.length=0)/\(k=22->ps.length=0):=by
 obtain⟨h1,h2,h3⟩:=Qp (Dx h);exact⟨fun e=>h1 (Wm e),fun e=>h2 (Nc e),fun e=>h3 (by subst e;rfl),fun e=>h3 (by subst e;rfl)⟩
theorem Sp {t:Ty}(h:Co t=true):Ai t=true/\Am t<=4096:=by
 unfold Co at h;simp only[Bool.and_eq_true,decide_eq_true_eq]at h;exact⟨h.2,h.1⟩
def Oz (P:Nat->Prop) (w:World) (q:Nat) (A:Option Addr) (c:Nat) (S:Bv):Prop:=(S=[]/\A=none/\c=0)\/∃g,A=some ⟨g,0,none⟩/\q<g/\S.length<=c/\Rj P w g S
theorem Oz.but {P O:Nat->Prop}{w w':World}{q c:Nat}{A:Option Addr}{S:Bv}(h:Oz P w q A c S) (hb:Ad O w w') (hg:∀g,q<g->A=some ⟨g,0,none⟩->¬ O g) (hp:∀x,P x->¬ O x):Oz P w' q A c S:=
 h.imp id fun ⟨g,e,h1,h2,h3⟩=>⟨g,e,h1,h2,h3.but hb (hg g h1 e) hp⟩
theorem Oz.list {P:Nat->Prop}{w:World}{q c:Nat}{A:Option Addr}{S:Bv}(h:Oz P w q A c S) (hl:S.length<=1000000000000000):Du (fun x=>P x\/(q<x/\A=some ⟨x,0,none⟩)) w S A c:=by
 rcases h with ⟨rfl,rfl,rfl⟩|⟨g,rfl,h1,h2,h3⟩
 ·exact⟨0,0,⟨Nat.le_refl _,Nat.zero_le _,fun _=>rfl,fun h=>absurd h (by simp)⟩,fun i hi=>absurd hi (by simp)⟩
 ·exact (h3.list h2 hl).but (Ad.refl (fun _=>False) w) fun x hx=>⟨id,hx.imp id fun e=>by rw[e];exact⟨h1,rfl⟩⟩
theorem Oz.get {P:Nat->Prop}{w:World}{q c:Nat}{A:Option Addr}{S:Bv}(h:Oz P w q A c S) (h0:0<S.length):∃g,A=some ⟨g,0,none⟩/\q<g/\S.length<=c/\Rj P w g S:=by
 rcases h with ⟨rfl,_⟩|h
 ·exact absurd h0 (by simp)
 ·exact h
theorem L2 {α:Type}{S l:List α}{i:Nat}(hi:i<l.length) (hl:S.length=l.length) (hd:S.drop i=l.drop i) (u:α):S.take (i+1)=S.take i++[l[i]]/\S.drop (i+1)=l.drop (i+1)/\(S.set i u).length=l.length/\(S.set i u).drop (i+1)=l.drop (i+1)/\(S.set i u).take (i+1)=S.take i++[u]:=by
 have hS:i<S.length:=by omega
 rw[List.drop_eq_getElem_cons hi,List.drop_eq_getElem_cons hS]at hd;injection hd with h1 h2
 refine⟨?_,h2,by rw[List.length_set,hl],?_,?_⟩
 ·rw[List.take_succ_eq_append_getElem hS,h1]
 ·rw[List.drop_set_of_lt (by omega)];exact h2
 ·rw[List.take_succ_eq_append_getElem (by rw[List.length_set];exact hS),List.getElem_set_self,List.take_set_of_le (Nat.le_refl _)]
theorem Tk {α:Type}{S l:List α}{i:Nat}(hi:i<l.length) (hl:S.length=l.length) (hd:S.drop i=l.drop i):S[i]'(by omega)=l[i]:=by
 have hS:i<S.length:=by omega
 rw[List.drop_eq_getElem_cons hi,List.drop_eq_getElem_cons hS]at hd;injection hd with h1 h2
theorem PlT.six {P:Nat->Prop}{w:World}{g i:Nat}{l:List Ty}(h:PlT P w g l) (hi:i<l.length):(∃v,w.cell? ⟨g,i*6,none⟩=some v)/\(∃v,w.cell? ⟨g,i*6+1,none⟩=some v)/\(∃v,w.cell? ⟨g,i*6+2,none⟩=some v)/\(∃v,w.cell? ⟨g,i*6+3,none⟩=some v)/\(∃v,w.cell? ⟨g,i*6+4,none⟩=some v)/\∃v,w.cell? ⟨g,i*6+5,none⟩=some v:=
 ⟨h.cell _ (by omega),h.cell _ (by omega),h.cell _ (by omega),h.cell _ (by omega),h.cell _ (by omega),h.cell _ (by omega)⟩
theorem Rj.six {P:Nat->Prop}{w:World}{g i:Nat}{l:Bv}(h:Rj P w g l) (hi:i<l.length):(∃v,w.cell? ⟨g,i*8+2,none⟩=some v)/\(∃v,w.cell? ⟨g,i*8+3,none⟩=some v)/\(∃v,w.cell? ⟨g,i*8+4,none⟩=some v)/\(∃v,w.cell? ⟨g,i*8+5,none⟩=some v)/\(∃v,w.cell? ⟨g,i*8+6,none⟩=some v)/\∃v,w.cell? ⟨g,i*8+7,none⟩=some v:=
 ⟨h.cell _ (by omega),h.cell _ (by omega),h.cell _ (by omega),h.cell _ (by omega),h.cell _ (by omega),h.cell _ (by omega)⟩
def Nf:Prop:=∀(K:Nat->Prop) (w:World) (t:Ty) (cs:List Value),An K w t cs->Ai t=true->(Bi t).length<=1000000000->Calls Tryz.prog 93 #[.agg cs.toArray] w fun e w'=>∃(l:List Z8) (A:Option Addr) (c:Nat),e=.returned (.slice A l.length c)/\Cm w' l A/\(∀x,x∈l↔x∈Bi t)/\l.length<=(Bi t).length/\(∀b o,A=some ⟨b,o,none⟩->w.heap.size<=b)/\Below w.heap.size w w'
theorem Kl (x s:Z8) (n:Int) (p0 p1 p2 p3:Ty):Bx x (.mk 21 s n [p0,p1,p2,p3] [] [])=(Bx x p0 || (!((n == 1) && decide (s=x)) && (Bx x p1 || ((!Dp (Bi p1) x && Bx x p2) || Bx x p3)))):=by
 rw[Fd];have e1:Mh x []=false:=rfl;have e2:Ox x []=false:=rfl;have e3:Ff [] x=false:=rfl;have c0:Dz 21 s n [p0,p1,p2,p3] 0 x=false:=by simp[Dz]
 have c1:Dz 21 s n [p0,p1,p2,p3] 1 x=((n == 1) && decide (s=x)):=by simp[Dz]
 have c2:Dz 21 s n [p0,p1,p2,p3] 2 x=(((n == 1) && decide (s=x)) || Dp (Bi p1) x):=by simp[Dz,E5]
 have c3:Dz 21 s n [p0,p1,p2,p3] 3 x=((n == 1) && decide (s=x)):=by simp[Dz]
 rw[e1,e2,e3,Fl,Fl,Fl,Fl,Fl];simp only[Nat.zero_add,Nat.reduceAdd];rw[c0,c1,c2,c3];generalize ((n == 1) && decide (s=x))=d1;generalize Dp (Bi p1) x=d2;generalize Bx x p0=d3;generalize Bx x p1=d4;generalize Bx x p2=d5;generalize Bx x p3=d6;have e4:((21:Int) == 16)=false:=rfl;rw[e4]
 cases d1 <;> cases d2 <;> cases d3 <;> cases d4 <;> cases d5 <;> cases d6 <;> rfl
theorem Pu {l l':List Z8}(h:∀x,x∈l↔x∈l') (x:Z8):Dp l x=Dp l' x:=by
 rw[Bool.eq_iff_iff,Ej,Ej];exact h x
theorem Xk {U:List Z8}{g mb mf bp op c1 c2:Nat}{s:Z8}{c:Z8->Nat}{S:Z8->Bool}(u:FrameMode) (w:World) (h1:w.cell? ⟨c1,0,none⟩=some (.pointer (some ⟨g,0,none⟩))) (h2:w.cell? ⟨c2,0,none⟩=some (.pointer (some ⟨bp,op,none⟩))) (h3:w.cell? ⟨bp,op+1,none⟩=some (.string s)) (hS:F3 U w g mb mf (fun x=>c x+(if s=x then 1 else 0)) S) (hU:U.length<maxLen) (hs:s∈U/\s.size<=maxLen) (hc:c s+1<=9000000000000000000)
  (hn:(c1≠mb/\c1≠mf)/\(c2≠mb/\c2≠mf)/\bp≠mb/\bp≠mf) :
  CallsD Tryz.prog 210 #[.pointer (some ⟨c1,0,none⟩),.pointer (some ⟨c2,0,none⟩)] u w fun e u' w'=>u'=u/\(e=.returned (.tuple #[])/\F3 U w' g mb mf c S/\Ad (fun x=>x=mb\/x=mf) w w'):=by
 obtain⟨v1,hH⟩:∃v1,v1=c s+1:=⟨_,rfl⟩;obtain⟨v2,hI⟩:∃v2,v2=c s:=⟨_,rfl⟩;have hB:=hS.later (Below.refl w.heap.size w).drew;have lk:(Instr.lookup 185 (.map (some mb)) (.string s) false).run Tryz.prog w.drew=.ok (.int .i64 (v1:Int)) w.drew:=by
  have h:=hB.look s hs.2;rw[if_pos rfl,<-hH]at h;exact h
 have LK:=Hd lk;have hM:wrap64 ((v1:Int) - 1)=(v2:Int):=by rw[K6 (by omega) (by omega)];omega
 have vr3:IntKind.i64.wrap ((v1:Int) - 1)=(v2:Int):=(Iq _).trans hM;obtain⟨w3,hC,hG,hF⟩:=hB.put hU s hs.1 hs.2 v2;have hJ:=Hd hC;have hD:Z9 (Ad (fun x=>x=mb\/x=mf) w w3):=Hd ((Ad.of_below (Below.refl w.heap.size w).drew).trans hF fun x h=>.inl (.inl h));have hE:Z9 (F3 U w3 g mb mf c S):=Hd (hG.same (fun x=>by
  by_cases e:s=x
  ·subst e;rw[if_pos rfl];exact hI
  ·rw[if_neg e,if_neg e];rfl) fun _=>rfl)
 have HC:Z9 (∀wx,Ad (fun x=>x=mb\/x=mf) w wx->F3 U wx g mb mf (fun x=>c x+(if s=x then 1 else 0)) S\/F3 U wx g mb mf c S->wx.cell? ⟨c1,0,none⟩=some (.pointer (some ⟨g,0,none⟩))/\wx.cell? ⟨c2,0,none⟩=some (.pointer (some ⟨bp,op,none⟩))/\wx.cell? ⟨bp,op+1,none⟩=some (.string s)/\wx.cell? ⟨g,0,none⟩=some (.map (some mb))):=Hd fun wx hx hL=>⟨hx.cell (fun e=>e.elim hn.1.1 hn.1.2) h1,hx.cell (fun e=>e.elim hn.2.1.1 hn.2.1.2) h2,hx.cell (fun e=>e.elim hn.2.2.1 hn.2.2.2) h3,hL.elim (fun h=>h.cell.1) (fun h=>h.cell.1)⟩;have hd:=HC.o _ (Ad.of_below (Below.refl w.heap.size w).drew) (.inl hB);have HD:=Hd hd;clear h1 h2 h3 hS hU hs hc hn hH hI hB lk hC hG hF hd
 go_enter_d Tryz.func210,Tryz.ntmps210
 refine wp_region_held_drew (S:=(fun w'=>w'.cell? ⟨c1,0,none⟩=some (.pointer (some ⟨g,0,none⟩))/\w'.cell? ⟨c2,0,none⟩=some (.pointer (some ⟨bp,op,none⟩))/\w'.cell? ⟨bp,op+1,none⟩=some (.string s)/\w'.cell? ⟨g,0,none⟩=some (.map (some mb)))) (by kernel_rfl) HD.o (fun hA=>?_);refine Ab.s [0,1,2,3,4,5,6,7] ?_
 iterate 8 (refine Ab.k (so rfl) hA ?_;try simp only[Act.put,Az,Ba,Bb])
 refine Ab.d ?_;have lk:=LK.o;refine wpAnyH_ready (rs:=[8]) (by kernel_rfl) (by simp) ?_;refine AllReadyH.cons (sd (some 10) rfl) (fun Kx hK=>?_) AllReadyH.nil;go_simp;clear lk;refine hK.out _ _ (HD.o) (fun hA=>?_);clear hK Kx;try simp only[Act.put,Az,Ba,Bb]
 refine Ab.s [9] ?_;refine Ab.k (so rfl) hA ?_;try simp only[Act.put,Az,Ba,Bb]
 refine Ab.d ?_;have hC:=hJ.o;refine wpAnyH_ready (rs:=[10]) (by kernel_rfl) (by simp) ?_;refine AllReadyH.cons (sd none rfl) (fun Kx hK=>?_) AllReadyH.nil;go_simp;clear hC;refine hK.out _ _ (HC.o _ hD.o (.inr hE.o)) (fun hA=>?_);clear hK Kx;try simp only[Act.put,Az,Ba,Bb]
 refine wpAnyH_done (by kernel_rfl) ?_ _;clear hA
 go_end0
 first|exact⟨hE.o,hD.o⟩|exact⟨rfl,hE.o,hD.o⟩
theorem Jed {M T c l a b e f:Nat}(h:c+(1+(a+(b+(e+f))))*M<=T) (hl:l<=b) (hM:1<=M):c+1+l<=T - e*M/\e*M<=T:=by
 rw[Nat.add_mul,Nat.add_mul,Nat.add_mul,Nat.add_mul,Nat.one_mul]at h;have hb:b<=b*M:=Nat.le_mul_of_pos_right _ hM;generalize a*M=a1 at h;generalize b*M=b1 at h hb;generalize e*M=e1 at h ⊢;generalize f*M=f1 at h;omega
theorem Sw {M T c a b x:Nat}(h:c+a*M<=T) (hx:x+1<=a) (hb:b<=1) (hM:1<=M):c+b+x*M<=T:=by
 have h2:=Nat.mul_le_mul_right M hx;rw[Nat.add_mul,Nat.one_mul]at h2;generalize a*M=a1 at h h2;generalize x*M=x1 at h2 ⊢;omega
