import Derived.Test.YtlpfpehegddcfaaGreatDoorMw13
namespace Go.Proofs.YtlpfpehegddcfaaGreatDoor
set_option maxRecDepth 100000
set_option maxHeartbeats 64000000
open Go.RowKit
theorem Yz {F:List Ty}{t:Ty}(hA:M0 F) {j:Nat}(hj:j<F.length) (h0:B6 F[j] t=0):Fz t F=F:=by
 have e:=Dl.1 h0;refine Gv (D9 t hA) hA fun x=>?_;rw[D2]
 constructor
 ·rintro (rfl|h)
  ·rw[<-e];exact List.getElem_mem hj
  ·exact h
 ·exact .inr
theorem Jf7 {F:List Ty}{t:Ty}{k:Nat}(hA:M0 F) (hB:∀j (h:j<F.length),j+1=k->B6 F[j] t = -1) {i:Nat}(hi:i<F.length) (hC:i<k) (hk:k<=F.length):B6 F[i] t = -1:=by
 rcases Nat.lt_or_ge (i+1) k with h|h
 ·have h1:=hB (k - 1) (by omega) (by omega);have h2:=List.pairwise_iff_getElem.1 hA i (k - 1) hi (by omega) (by omega);exact Ga h2 h1
 ·exact hB i hi (by omega)
theorem Wh {F:List Ty}{t:Ty}{k:Nat}(hA:M0 F) (hk:k<=F.length) (hC:∀j (h:j<F.length),k<=j->B6 F[j] t=1) (hD:∀j (h:j<F.length),j+1=k->B6 F[j] t = -1):Fz t F=F.take k++t :: F.drop k:=by
 refine Gv (D9 t hA) ?_ fun x=>?_
 ·have hB:=hA;unfold M0 at hB;rw[<-List.take_append_drop k F,List.pairwise_append]at hB;obtain⟨h1,h2,h3⟩:=hB;refine List.pairwise_append.2 ⟨h1,List.pairwise_cons.2 ⟨fun b hb=>?_,h2⟩,fun a ha b hb=>?_⟩
  ·obtain⟨j,hj,rfl⟩:=List.getElem_of_mem hb;rw[List.getElem_drop];exact Wf (hC _ (by simp at hj;omega) (by omega))
  ·rcases List.mem_cons.1 hb with rfl|hb
   ·obtain⟨j,hj,rfl⟩:=List.getElem_of_mem ha;rw[List.getElem_take];exact Jf7 hA hD (by simp at hj;omega) (by simp at hj;omega) hk
   ·exact h3 a ha b hb
 ·rw[D2,List.mem_append,List.mem_cons]
  constructor
  ·rintro (h|h)
   ·exact .inr (.inl h)
   ·rw[<-List.take_append_drop k F]at h;rcases List.mem_append.1 h with h|h
    ·exact .inl h
    ·exact .inr (.inr h)
  ·rintro (h|h|h)
   ·exact .inr (List.mem_of_mem_take h)
   ·exact .inl h
   ·exact .inr (List.mem_of_mem_drop h)
theorem Fm.set {K:Nat->Prop}{w0 w:World}{g c:Nat}{a b:List Ty}{x t:Ty}{cs:List Value}(h:Fm K w0 w g c (a++x :: b)) (ht:An K w0 t cs):Fm K w0 (w.setCells g (a.length*6) cs) g c (a++t :: b):=by
 have e:(a++x :: b).drop a.length=x :: b:=List.drop_left;have h1:Fm K w0 w g c (a++(a++x :: b).drop a.length):=by rw[e];exact h
 have h2:=h1.put (by simp) ht;have e2:(a++x :: b).drop (a++[t]).length=b:=by
  rw[List.length_append,List.length_singleton,<-List.drop_drop,e];rfl
 rw[e2,List.append_assoc]at h2;exact h2
theorem Fm.o {K:Nat->Prop}{w0 w:World}{g c:Nat}{ts:List Ty}(h:Fm K w0 w g c ts) (hg:w0.heap.size<=g):Cl K w0 w (.slice (some ⟨g,0,none⟩) ts.length c) ts:=by
 obtain⟨cur,h1,h2⟩:=h.blk;have hB:=h.le;refine⟨cur.toList.take (ts.length*6),⟨by simp;omega,.inr ⟨g,c,cur,rfl,hg,h1,hB,h.mx,h2,rfl⟩⟩,fun i hi=>?_⟩;obtain⟨cs,h3,h4⟩:=h.reps i ts[i] (List.getElem?_eq_getElem hi);refine⟨cs,h3,fun j u hj=>?_⟩;have h5:=h4 j u hj;have hA:=(List.getElem?_eq_some_iff.1 hj).1;rw[h3.six]at hA;rw[cell_of_row _ _ _ _ _ _ h1]at h5;rw[List.getElem?_take,if_pos (by omega)];simpa using h5
theorem Xh {K:Nat->Prop}{w0 w:World}{g c:Nat}{s:List Ty}(h:Fm K w0 w g c s) (hb:Below w0.heap.size w0 w) (hg:w0.heap.size<=g) (hs:2<=s.length) (kJ:s.length<=1099511627776) :
  Calls Tryz.prog 102 #[.slice (some ⟨g,0,none⟩) s.length c,.func (.func 103) #[] #[]] w fun e w'=>e=.returned (.slice (some ⟨g,0,none⟩) (Ci s).length c)/\Below w0.heap.size w0 w'/\Fm K w0 w' g c (Ci s):=by
 have H0:=Hd (And.intro h hb);have HG:=Hd hg;have HB:=Hd kJ;have HS:=Hd hs;have t2:decide ((s.length:Int)<2)=false:=by simp;omega
 have kB:=h.le;clear h hb hg kJ;go_enter Tryz.func102,Tryz.ntmps102;go_wp2_with fail
 go_loopw [5] (fun v wr=>∃(m:Nat),m+1<=s.length/\v=.int .i64 ((m+1:Nat):Int)/\Ci (s.take (m+1))=s.take (m+1)/\Fm K w0 wr g c s/\Below w0.heap.size w0 wr) (fun v _=>s.length - (intOf v).toNat)
 case atStart=>exact⟨0,by omega,rfl,by match s with|[]=>rfl|_ :: _=>rfl,H0.o⟩
 case round=>
  obtain⟨m,hm,rfl,kC,hS,hG⟩:=hrel;have HR:=Hd (And.intro kC (And.intro hS hG));by_cases hL:m+1<s.length
  ·have t1:decide (((m+1:Nat):Int)<(s.length:Int))=true:=by simp;omega
   obtain⟨p0,p1,p2,p3,p4,p5,p6,p7,p8,p9,pa,pb,hp,hM⟩:=hS.six hL;obtain⟨q0,q1,q2,q3,q4,q5,q6,q7,q8,q9,qa,qb,hq,hU⟩:=hS.six (i:=m) (by omega);have KE:Z9 (∀wx,Below wr.heap.size wr wx->Calls Tryz.prog 103 #[.agg #[.int .i64 p0,.string p1,.int .i64 p2,.slice p3 p4 p5,.slice p6 p7 p8,.slice p9 pa pb],.agg #[.int .i64 q0,.string q1,.int .i64 q2,.slice q3 q4 q5,.slice q6 q7 q8,.slice q9 qa qb]] wx fun e w'=>e=.returned (.bool (B6 s[m+1] s[m] == 0))/\Gw wx w'):=Hd fun wx hx=>Vx (hM.later (hG.trans (hx.mono hG.size))) (hU.later (hG.trans (hx.mono hG.size)));have hE:Z9 (∀wx,Below wr.heap.size wr wx->(wx.cell? ⟨g,(m+1)*6,none⟩=some (.int .i64 p0)/\wx.cell? ⟨g,(m+1)*6+1,none⟩=some (.string p1)/\wx.cell? ⟨g,(m+1)*6+2,none⟩=some (.int .i64 p2)/\wx.cell? ⟨g,(m+1)*6+3,none⟩=some (.slice p3 p4 p5)/\wx.cell? ⟨g,(m+1)*6+4,none⟩=some (.slice p6 p7 p8)/\wx.cell? ⟨g,(m+1)*6+5,none⟩=some (.slice p9 pa pb))/\wx.cell? ⟨g,m*6,none⟩=some (.int .i64 q0)/\wx.cell? ⟨g,m*6+1,none⟩=some (.string q1)/\wx.cell? ⟨g,m*6+2,none⟩=some (.int .i64 q2)/\wx.cell? ⟨g,m*6+3,none⟩=some (.slice q3 q4 q5)/\wx.cell? ⟨g,m*6+4,none⟩=some (.slice q6 q7 q8)/\wx.cell? ⟨g,m*6+5,none⟩=some (.slice q9 qa qb)):=Hd fun wx hx=>⟨⟨Aa hx hp.1,Aa hx hp.2.1,Aa hx hp.2.2.1,Aa hx hp.2.2.2.1,Aa hx hp.2.2.2.2.1,Aa hx hp.2.2.2.2.2⟩,Aa hx hq.1,Aa hx hq.2.1,Aa hx hq.2.2.1,Aa hx hq.2.2.2.1,Aa hx hq.2.2.2.2.1,Aa hx hq.2.2.2.2.2⟩;have hN:wrap64 (((m+1:Nat):Int) - 1)=((m:Nat):Int):=by rw[Cq (by omega) (by have:=HB.o;omega)];omega
   have wr1':IntKind.i64.wrap (((m+1:Nat):Int) - 1)=((m:Nat):Int):=by
    have e:IntKind.i64.wrap (((m+1:Nat):Int) - 1)=wrap64 (((m+1:Nat):Int) - 1):=(by unfold wrap64;exact IntKind.wrap_i64 _);rw[e,hN]
   have i0:(0:Int)<=(m:Int)+1:=by omega
   have i1:(m:Int)+1<(s.length:Int):=by omega
   have i2:(0:Int)<=(m:Int):=by omega
   have i3:(m:Int)<(s.length:Int):=by omega
   have hO:wrap64 (m:Int)=(m:Int):=Cq (by omega) (by have:=HB.o;omega);have wr3':IntKind.i64.wrap (m:Int)=(m:Int):=by
    have e:IntKind.i64.wrap (m:Int)=wrap64 (m:Int):=(by unfold wrap64;exact IntKind.wrap_i64 _);rw[e,hO]
   clear hp hq hM hU kC hS hG;go_wp2_with fail;refine wp_region_held_drew (S:=(fun w'=>(w'.cell? ⟨g,(m+1)*6,none⟩=some (.int .i64 p0)/\w'.cell? ⟨g,(m+1)*6+1,none⟩=some (.string p1)/\w'.cell? ⟨g,(m+1)*6+2,none⟩=some (.int .i64 p2)/\w'.cell? ⟨g,(m+1)*6+3,none⟩=some (.slice p3 p4 p5)/\w'.cell? ⟨g,(m+1)*6+4,none⟩=some (.slice p6 p7 p8)/\w'.cell? ⟨g,(m+1)*6+5,none⟩=some (.slice p9 pa pb))/\w'.cell? ⟨g,m*6,none⟩=some (.int .i64 q0)/\w'.cell? ⟨g,m*6+1,none⟩=some (.string q1)/\w'.cell? ⟨g,m*6+2,none⟩=some (.int .i64 q2)/\w'.cell? ⟨g,m*6+3,none⟩=some (.slice q3 q4 q5)/\w'.cell? ⟨g,m*6+4,none⟩=some (.slice q6 q7 q8)/\w'.cell? ⟨g,m*6+5,none⟩=some (.slice q9 qa qb))) (by kernel_rfl) (hE.o _ (Below.refl _ _).drew) (fun hA=>?_);refine Ab.s [0,1,2,3,4,5,6,7,8,9] ?_
   iterate 10 (refine Ab.k (so rfl) hA ?_;try simp only[Act.put,Az,Ba,Bb])
   refine Ab.d ?_;refine wpAnyH_ready (rs:=[10]) (by kernel_rfl) (by simp) ?_;refine AllReadyH.cons (sd (some 28) rfl) (fun K hK=>?_) AllReadyH.nil;go_simp;refine (KE.o _ (Below.refl _ _).drew).mono ?_;rintro e w2 ⟨rfl,hQ⟩;have hC:=Hd ((Below.refl wr.heap.size wr).drew.trans hQ.below);clear hQ;go_wp2_with fail;refine hK.out _ _ (hE.o _ hC.o) (fun hA=>?_);clear hK K;try simp only[Act.put,Az,Ba,Bb]
   refine wpAnyH_done (by kernel_rfl) ?_ _;clear hA
   cases hF:(B6 s[m+1] s[m] == 0) with
   | false=>
    have kQ:Z9 (B6 s[m] s[m+1]≠0):=Hd (by have:B6 s[m+1] s[m]≠0:=(by simpa using hF);rw[Ez];omega);have hH:=Hd hL;have hI:wrap64 ((m:Int)+1+1)=(m:Int)+1+1:=Cq (by omega) (by have:=HB.o;omega);have HM:=Hd (Bf hL);clear hF i0 i1 i2 i3 hN wr1' hO wr3' kB t2;go_wp2_with fail;refine⟨⟨m+1,hH.o,by first|rfl|(rw[hI];rfl)|simp,?d1,HR.o.2.1.later hC.o,HR.o.2.2.trans (hC.o.mono HR.o.2.2.size)⟩,?d2⟩
    case d1=>
     rw[Ia (by omega) hH.o,if_neg (by simpa using kQ.o),HR.o.1];exact (List.take_succ_eq_append_getElem hH.o).symm
    case d2=>rw[hI];exact HM.o
   | true=>
    have kE:B6 s[m] s[m+1]=0:=by
     have h0:B6 s[m+1] s[m]=0:=(by simpa using hF);rw[Ez,h0];rfl
    have kR:=Hd (Gk.start hL HR.o.1 kE (HR.o.2.1.later hC.o) (HR.o.2.2.trans (hC.o.mono HR.o.2.2.size)));have kP:Z9 ((s.take (m+1)).length=m+1):=Hd (by simp;omega);have kZ:=Hd hL;clear kE hF i0 i1 i2 i3 hN wr1' hO wr3' t2 t1 KE hE hC;go_wp2_with fail;generalize kW:s.length - (m+1)=n2;have kG:Z9 (n2+(m+1)=s.length):=Hd (by omega);generalize hT:(m+1)*6=off;have hP:=Hd hT;clear hL hm hs kW hT
    go_loopw [5,7] (fun v5 v7 wx=>∃(D:List Ty) (i:Nat),v5=.int .i64 (D.length:Int)/\v7=.int .i64 ((i+1:Nat):Int)/\Gk K w0 wx g c s m D i) (fun _ v7 _=>s.length - (intOf v7).toNat)
    case atStart=>exact⟨s.take (m+1),0,by rw[kP.o];rfl,rfl,kR.o⟩
    case round=>
     obtain⟨D,i,rfl,rfl,hR⟩:=hrel;have kI:=Hd hR;have kL:=hR.dl;have kM:=hR.le;by_cases hJ:m+2+i<s.length
     ·obtain⟨p0,p1,p2,p3,p4,p5,p6,p7,p8,p9,pa,pb,hp,hM⟩:=hR.row.sixAt (hR.at (j:=m+2+i) (by omega) hJ);obtain⟨q0,q1,q2,q3,q4,q5,q6,q7,q8,q9,qa,qb,hq,hU⟩:=hR.row.sixAt (hR.at (j:=m+1+i) (by omega) (by omega));obtain⟨r0,r1,r2,r3,r4,r5,r6,r7,r8,r9,ra,rb,hr,-⟩:=hR.row.sixAt (i:=D.length) (t:=s[D.length]'(by omega)) (by rw[List.getElem?_append_right (Nat.le_refl _),List.getElem?_drop,Nat.sub_self,Nat.add_zero];exact List.getElem?_eq_getElem (by omega));rw[show (m+2+i)*6=off+(i+1)*6 from by have:=hP.o;omega]at hp;rw[show (m+1+i)*6=off+i*6 from by have:=hP.o;omega]at hq;have KE:Z9 (∀wx,Below wr.heap.size wr wx->Calls Tryz.prog 103 #[.agg #[.int .i64 p0,.string p1,.int .i64 p2,.slice p3 p4 p5,.slice p6 p7 p8,.slice p9 pa pb],.agg #[.int .i64 q0,.string q1,.int .i64 q2,.slice q3 q4 q5,.slice q6 q7 q8,.slice q9 qa qb]] wx fun e w'=>e=.returned (.bool (B6 s[m+2+i] s[m+1+i] == 0))/\Gw wx w'):=Hd fun wx hx=>Vx (hM.later (hR.below.trans (hx.mono hR.below.size))) (hU.later (hR.below.trans (hx.mono hR.below.size)));have hE:Z9 (∀wx,Below wr.heap.size wr wx->(wx.cell? ⟨g,off+(i+1)*6,none⟩=some (.int .i64 p0)/\wx.cell? ⟨g,off+(i+1)*6+1,none⟩=some (.string p1)/\wx.cell? ⟨g,off+(i+1)*6+2,none⟩=some (.int .i64 p2)/\wx.cell? ⟨g,off+(i+1)*6+3,none⟩=some (.slice p3 p4 p5)/\wx.cell? ⟨g,off+(i+1)*6+4,none⟩=some (.slice p6 p7 p8)/\wx.cell? ⟨g,off+(i+1)*6+5,none⟩=some (.slice p9 pa pb))/\wx.cell? ⟨g,off+i*6,none⟩=some (.int .i64 q0)/\wx.cell? ⟨g,off+i*6+1,none⟩=some (.string q1)/\wx.cell? ⟨g,off+i*6+2,none⟩=some (.int .i64 q2)/\wx.cell? ⟨g,off+i*6+3,none⟩=some (.slice q3 q4 q5)/\wx.cell? ⟨g,off+i*6+4,none⟩=some (.slice q6 q7 q8)/\wx.cell? ⟨g,off+i*6+5,none⟩=some (.slice q9 qa qb)):=Hd fun wx hx=>⟨⟨Aa hx hp.1,Aa hx hp.2.1,Aa hx hp.2.2.1,Aa hx hp.2.2.2.1,Aa hx hp.2.2.2.2.1,Aa hx hp.2.2.2.2.2⟩,Aa hx hq.1,Aa hx hq.2.1,Aa hx hq.2.2.1,Aa hx hq.2.2.2.1,Aa hx hq.2.2.2.2.1,Aa hx hq.2.2.2.2.2⟩;have hZ:Z9 (∀wx,Below wr.heap.size wr wx->wx.cell? ⟨g,D.length*6,none⟩=some (.int .i64 r0)/\wx.cell? ⟨g,D.length*6+1,none⟩=some (.string r1)/\wx.cell? ⟨g,D.length*6+2,none⟩=some (.int .i64 r2)/\wx.cell? ⟨g,D.length*6+3,none⟩=some (.slice r3 r4 r5)/\wx.cell? ⟨g,D.length*6+4,none⟩=some (.slice r6 r7 r8)/\wx.cell? ⟨g,D.length*6+5,none⟩=some (.slice r9 ra rb)):=Hd fun wx hx=>⟨Aa hx hr.1,Aa hx hr.2.1,Aa hx hr.2.2.1,Aa hx hr.2.2.2.1,Aa hx hr.2.2.2.2.1,Aa hx hr.2.2.2.2.2⟩;have hY:Z9 (∀wx,Below wr.heap.size wr wx->∀o,wx.frozen? ⟨g,o,none⟩=false):=Hd fun wx hx o=>by
       obtain⟨cur,h1,_⟩:=(hR.row.later hx).blk;exact Lib.frozen_of_heap h1 o
      have hD:Z9 (B6 s[m+1+i] s[m+2+i]≠0->∀wy,Below wr.heap.size wr wy->Gk K w0 (wy.setCells g (D.length*6) [.int .i64 p0,.string p1,.int .i64 p2,.slice p3 p4 p5,.slice p6 p7 p8,.slice p9 pa pb]) g c s m (D++[s[m+2+i]]) (i+1)):=Hd fun kX wy hy=>kI.o.put hJ kX HG.o hy hM;have hB:Z9 (B6 s[m+1+i] s[m+2+i]=0->∀wy,Below wr.heap.size wr wy->Gk K w0 wy g c s m D (i+1)):=Hd fun he wy hy=>kI.o.same hJ he hy;have hX:=Hd (Ez s[m+2+i] s[m+1+i]);have kF:Z9 ((D++[s[m+2+i]]).length=D.length+1):=Hd (by simp);have hW:Z9 (s.length - (intOf (Value.int .i64 ((i+1+1:Nat):Int))).toNat<s.length - (intOf (Value.int .i64 ((i+1:Nat):Int))).toNat):=Hd (Bf (by omega));generalize B6 s[m+2+i] s[m+1+i]=oo at KE hX;generalize B6 s[m+1+i] s[m+2+i]=o2 at hD hB hX;generalize kS:D++[s[m+2+i]]=DD at hD kF;have kD:=kG.o;have t1:decide (((i+1:Nat):Int)<(n2:Int))=true:=(by simp;omega);have hN:wrap64 (((i+1:Nat):Int) - 1)=((i:Nat):Int):=(by rw[Cq (by omega) (by have:=HB.o;omega)];omega);have wr1':IntKind.i64.wrap (((i+1:Nat):Int) - 1)=((i:Nat):Int):=by
       have e:IntKind.i64.wrap (((i+1:Nat):Int) - 1)=wrap64 (((i+1:Nat):Int) - 1):=(by unfold wrap64;exact IntKind.wrap_i64 _);rw[e,hN]
      have hO:wrap64 (i:Int)=(i:Int):=Cq (by omega) (by have:=HB.o;omega);have wr3':IntKind.i64.wrap (i:Int)=(i:Int):=by
       have e:IntKind.i64.wrap (i:Int)=wrap64 (i:Int):=(by unfold wrap64;exact IntKind.wrap_i64 _);rw[e,hO]
      have i0:(0:Int)<=(i:Int)+1:=(by omega);have i1:(i:Int)+1<(n2:Int):=(by omega);have i2:(0:Int)<=(i:Int):=(by omega);have i3:(i:Int)<(n2:Int):=(by omega);have j1:(D.length:Int)<(s.length:Int):=(by omega);have hI:wrap64 ((i:Int)+1+1)=(i:Int)+1+1:=Cq (by omega) (by have:=HB.o;omega);have kY:wrap64 ((D.length:Int)+1)=(D.length:Int)+1:=Cq (by omega) (by have:=HB.o;omega);have kO:=Hd i1;clear hp hq hr hM hU hR kL kM hJ kD kS;go_wp2_with fail;refine wp_region_held_drew (S:=(fun w'=>(w'.cell? ⟨g,off+(i+1)*6,none⟩=some (.int .i64 p0)/\w'.cell? ⟨g,off+(i+1)*6+1,none⟩=some (.string p1)/\w'.cell? ⟨g,off+(i+1)*6+2,none⟩=some (.int .i64 p2)/\w'.cell? ⟨g,off+(i+1)*6+3,none⟩=some (.slice p3 p4 p5)/\w'.cell? ⟨g,off+(i+1)*6+4,none⟩=some (.slice p6 p7 p8)/\w'.cell? ⟨g,off+(i+1)*6+5,none⟩=some (.slice p9 pa pb))/\w'.cell? ⟨g,off+i*6,none⟩=some (.int .i64 q0)/\w'.cell? ⟨g,off+i*6+1,none⟩=some (.string q1)/\w'.cell? ⟨g,off+i*6+2,none⟩=some (.int .i64 q2)/\w'.cell? ⟨g,off+i*6+3,none⟩=some (.slice q3 q4 q5)/\w'.cell? ⟨g,off+i*6+4,none⟩=some (.slice q6 q7 q8)/\w'.cell? ⟨g,off+i*6+5,none⟩=some (.slice q9 qa qb))) (by kernel_rfl) (hE.o _ (Below.refl _ _).drew) (fun hA=>?_);refine Ab.s [0,1,2,3,4,5,6,7,8,9] ?_
      iterate 10 (refine Ab.k (so rfl) hA ?_;try simp only[Act.put,Az,Ba,Bb])
      refine Ab.d ?_;refine wpAnyH_ready (rs:=[10]) (by kernel_rfl) (by simp) ?_;refine AllReadyH.cons (sd (some 48) rfl) (fun K hK=>?_) AllReadyH.nil;go_simp;refine (KE.o _ (Below.refl _ _).drew).mono ?_;rintro e w2 ⟨rfl,hQ⟩;have hC:=Hd ((Below.refl wr.heap.size wr).drew.trans hQ.below);clear hQ;go_wp2_with fail;refine hK.out _ _ (hE.o _ hC.o) (fun hA=>?_);clear hK K;try simp only[Act.put,Az,Ba,Bb]
      refine Ab.s [11] ?_;refine Ab.k (so rfl) hA ?_;try simp only[Act.put,Az,Ba,Bb]
      refine Ab.d ?_;refine wpAnyH_done (by kernel_rfl) ?_ _;clear hA;have kH:Z9 (oo == 0↔o2=0):=Hd (by have:=hX.o;rw[beq_iff_eq];omega);clear i0 i1 i2 i3 hN wr1' hO wr3' t1
      cases hF:(oo == 0) with
      | true=>
       have kA:=Hd (hB.o (kH.o.1 hF) _ hC.o);clear hF KE hE hZ hY hD hB;go_wp2_with fail;refine⟨⟨D,i+1,by first|rfl|trivial,by first|rfl|(rw[hI];rfl),kA.o⟩,?_⟩;first|exact hW.o|(rw[hI];exact hW.o)
      | false=>
       have kA:=Hd (hD.o (fun h=>by have:=kH.o.2 h;rw[hF]at this;cases this) _ hC.o);obtain⟨e0,e1,e2,e3,e4,e5⟩:=hZ.o _ hC.o;obtain⟨⟨u0,u1,u2,u3,u4,u5⟩,-⟩:=hE.o _ hC.o;have aA:=hY.o _ hC.o;have i0:(0:Int)<=(i:Int)+1:=(by omega);have i1:(i:Int)+1<(n2:Int):=(by have:=kO.o;omega);clear hF KE hE hZ hY hD hB;go_wp2_with fail;refine⟨⟨DD,i+1,by rw[kF.o];first|rfl|(rw[kY];rfl),by first|rfl|(rw[hI];rfl),kA.o⟩,?_⟩;first|exact hW.o|(rw[hI];exact hW.o)
     ·have kD:=kG.o;have t1:decide (((i+1:Nat):Int)<(n2:Int))=false:=(by simp;omega);have t2:¬ i+1<n2:=(by omega);have kK:=hR.row.le;have kU:D.length<=c:=(by simp at kK;omega);have kV:D.length<s.length:=(by omega);have kN:=fun (j:Nat) (hj:j<c*6)=>hR.row.there hj;have kT:∀ty,(Builtin.clear_ #[22] ty #[.slice (some ⟨g,D.length*6,none⟩) (s.length - D.length) (c - D.length)]).run Tryz.prog wr=.ok (.tuple #[]) (wr.setCells g (D.length*6) (Builtin.zeroCells #[.int .i64 0,.string ⟨#[]⟩,.int .i64 0,.slice none 0 0,.slice none 0 0,.slice none 0 0] (s.length - D.length)).toList):=fun ty=>Mz wr ty g (D.length*6) (s.length - D.length) (c - D.length) (by omega) (fun j hj=>kN _ (by omega));have hV:=Hd (hR.fin hJ HG.o (Builtin.zeroCells #[.int .i64 0,.string ⟨#[]⟩,.int .i64 0,.slice none 0 0,.slice none 0 0,.slice none 0 0] (s.length - D.length)).toList);generalize (Builtin.zeroCells #[.int .i64 0,.string ⟨#[]⟩,.int .i64 0,.slice none 0 0,.slice none 0 0,.slice none 0 0] (s.length - D.length)).toList=LL at kT hV;clear hR kL kM hJ kD kN kK;go_wp2_with fail;go_ret
      rw[<-hV.o.1];exact⟨rfl,hV.o.2.2,hV.o.2.1⟩
  ·have HD:Z9 (Ci s=s):=Hd (by have h:=HR.o.1;rw[List.take_of_length_le (by omega)]at h;exact h);have t1:decide (((m+1:Nat):Int)<(s.length:Int))=false:=by simp;omega
   clear kC hS hG hm;go_wp2_with fail;go_ret
   rw[HD.o];exact⟨rfl,HR.o.2.2,HR.o.2.1⟩
