import Derived.Test.YtlpfpehegddcfaaGreatDoorMx13
namespace Go.Proofs.YtlpfpehegddcfaaGreatDoor
set_option maxRecDepth 100000
set_option maxHeartbeats 64000000
open Go.RowKit
def Gs (K:Nat->Prop) (w0:World) (F:List Ty) (t:Ty):Ending->World->Prop:=fun e w'=>∃v',e=.returned v'/\Cs K w0 w' v' (Fv t F)/\Below w0.heap.size w0 w'
theorem Fu {w w':World}{b:Nat}{o:Obj}(h:w.heap[b]?=some o) (hb:Below w.heap.size w w'):w'.heap[b]?=some o:=(hb.block b (Array.getElem?_eq_some_iff.1 h).1).trans h
theorem Sb {w:World}{b:Nat}(x0:Int) (x1:Z8) (x2:Int) (x3:Option Addr) (x4 x5:Nat) (x6:Option Addr) (x7 x8:Nat) (x9:Option Addr) (xa xb:Nat) (h:w.heap[b]?=some (.cells #[.int .i64 x0,.string x1,.int .i64 x2,.slice x3 x4 x5,.slice x6 x7 x8,.slice x9 xa xb] 26 (0,0))):w.cell? ⟨b,0,none⟩=some (.int .i64 x0)/\w.cell? ⟨b,1,none⟩=some (.string x1)/\w.cell? ⟨b,2,none⟩=some (.int .i64 x2)/\w.cell? ⟨b,3,none⟩=some (.slice x3 x4 x5)/\w.cell? ⟨b,4,none⟩=some (.slice x6 x7 x8)/\w.cell? ⟨b,5,none⟩=some (.slice x9 xa xb):=⟨cell_of_row _ _ 0 _ _ _ h,cell_of_row _ _ 1 _ _ _ h,cell_of_row _ _ 2 _ _ _ h,cell_of_row _ _ 3 _ _ _ h,cell_of_row _ _ 4 _ _ _ h,cell_of_row _ _ 5 _ _ _ h⟩
theorem Jcg {K':Nat->Prop}{w0 w:World}{g c:Nat}{F:List Ty}{t:Ty}(x0:Int) (x1:Z8) (x2:Int) (x3:Option Addr) (x4 x5:Nat) (x6:Option Addr) (x7 x8:Nat) (x9:Option Addr) (xa xb:Nat) (kX:Fc K' w0 w g c F) (hg:w0.heap.size<=g) (hA:Lm F) (ht:Aw K' w0 t [.int .i64 x0,.string x1,.int .i64 x2,.slice x3 x4 x5,.slice x6 x7 x8,.slice x9 xa xb]) (hb:Below w0.heap.size w0 w) (aX:F.length+1<=1099511627776) :
  Calls Tryz.prog 60 #[.slice (some ⟨g,0,none⟩) F.length c,.agg #[.int .i64 x0,.string x1,.int .i64 x2,.slice x3 x4 x5,.slice x6 x7 x8,.slice x9 xa xb]] w (Gs K' w0 F t):=by
 have aP:Below w.heap.size w (w.alloc (.cells #[.int .i64 x0,.string x1,.int .i64 x2,.slice x3 x4 x5,.slice x6 x7 x8,.slice x9 xa xb] 26)):=(Below.refl _ _).alloc (Nat.le_refl _) _;have kU:Z9 ((w.alloc (.cells #[.int .i64 x0,.string x1,.int .i64 x2,.slice x3 x4 x5,.slice x6 x7 x8,.slice x9 xa xb] 26)).heap[w.heap.size]?=some (.cells #[.int .i64 x0,.string x1,.int .i64 x2,.slice x3 x4 x5,.slice x6 x7 x8,.slice x9 xa xb] 26 (0,0))):=Hd (heap_alloc_new w _);have bG:=Hd (kX.later aP);have hQ:Z9 (∀wx,Gw (w.alloc (.cells #[.int .i64 x0,.string x1,.int .i64 x2,.slice x3 x4 x5,.slice x6 x7 x8,.slice x9 xa xb] 26)) wx->Cs K' w0 wx (.slice (some ⟨g,0,none⟩) F.length c) F):=Hd fun wx hx=>((kX.later aP).later hx.below).o hg;have kW:Z9 ((Value.slice (some ⟨g,0,none⟩) F.length c).ownBlock≠some w.heap.size):=Hd (by have:=kX.lt;simp only[Value.ownBlock,ne_eq,Option.some.injEq];omega);have HA:=Hd hA;have HT:=Hd ht;have bH:=Hd hb;have hO:Z9 (Below w0.heap.size w0 (w.alloc (.cells #[.int .i64 x0,.string x1,.int .i64 x2,.slice x3 x4 x5,.slice x6 x7 x8,.slice x9 xa xb] 26))):=Hd (hb.alloc hb.size _);have hW:=Hd aX;have hlf:F.length<=1099511627776:=by omega
 obtain⟨i0,aY,bB,bC,bD⟩:=Eg Ht;unfold Gs;clear kX hg hA ht hb aX aP;go_enter Tryz.func60,Tryz.ntmps60;go_wp2_with fail
 go_loopw [5] (fun v wr=>∃k:Nat,k<=F.length/\v=.int .i64 k/\(∀j (h:j<F.length),k<=j->B5 F[j] t=1)/\Gw (w.alloc (.cells #[.int .i64 x0,.string x1,.int .i64 x2,.slice x3 x4 x5,.slice x6 x7 x8,.slice x9 xa xb] 26)) wr) (fun v _=>(intOf v).toNat)
 case atStart=>exact⟨F.length,Nat.le_refl _,rfl,fun j h hj=>absurd h (by omega),Gw.refl _⟩
 case round=>
  obtain⟨k,hk,rfl,hN,hb⟩:=hrel;have aH:=Hd hN;have HB:=Hd hb;by_cases aZ:k=0
  ·subst aZ;obtain⟨y0,y1,y2,y3,y4,y5⟩:=Sb _ _ _ _ _ _ _ _ _ _ _ _ (Fu kU.o hb.below);clear hN hb hk;go_wp2_with fail;refine wp_region_held_drew (S:=(fun _=>True)) (by kernel_rfl) trivial (fun hB=>?_);refine Ab.s [0,1,2] ?_
   iterate 3 (refine Ab.k (so rfl) hB ?_;try simp only[Act.put,Bd,Be,Bf])
   refine Ab.d ?_;refine Ab.s [3,4,5,6,7,8,9,10] ?_
   iterate 8 (refine Ab.t (v:=undef) (so rfl) (by kernel_rfl) (by kernel_rfl) (by kernel_rfl) (fun _ _ _ h=>h) (Or.inr ⟨by rfl,rfl⟩) hB ?_;try simp only[Act.put,Bd,Be,Bf])
   refine Ab.d ?_;refine Ab.s [11] ?_;refine Ab.k (so rfl) hB ?_;try simp only[Act.put,Bd,Be,Bf]
   refine Ab.d ?_;refine wpAnyH_done (by kernel_rfl) ?_ _;clear hB;go_wp2_with fail;refine wp_region_held_drew (S:=(fun _=>True)) (by kernel_rfl) trivial (fun hB=>?_);refine Ab.s [0,1,2] ?_
   iterate 3 (refine Ab.k (so rfl) hB ?_;try simp only[Act.put,Bd,Be,Bf])
   refine Ab.d ?_;refine Ab.s [3,4,5,6,7,8,9,10] ?_
   iterate 8 (refine Ab.t (v:=undef) (so rfl) (by kernel_rfl) (by kernel_rfl) (by kernel_rfl) (fun _ _ _ h=>h) (Or.inr ⟨by rfl,rfl⟩) hB ?_;try simp only[Act.put,Bd,Be,Bf])
   refine Ab.d ?_;refine Ab.s [11] ?_;refine Ab.k (so rfl) hB ?_;try simp only[Act.put,Bd,Be,Bf]
   refine Ab.d ?_;refine wpAnyH_done (by kernel_rfl) ?_ _;clear hB;have kC:Z9 (Gw (w.alloc (.cells #[.int .i64 x0,.string x1,.int .i64 x2,.slice x3 x4 x5,.slice x6 x7 x8,.slice x9 xa xb] 26)) (wr.drew.drew)):=Hd (HB.o.drew.drew);have aJ:Z9 (0<=F.length):=Hd (Nat.zero_le _);have kE:Z9 (Fv t F=F.take 0++t :: F.drop 0):=Hd (U8 HA.o (Nat.zero_le _) aH.o (fun a h ha=>absurd ha (by omega)));obtain⟨vs,kS,kR⟩:=hQ.o _ kC.o;have kG:=Hd (And.intro kS kR);have aD:=Hd (Dz (wr.drew.drew) [.int .i64 x0,.string x1,.int .i64 x2,.slice x3 x4 x5,.slice x6 x7 x8,.slice x9 xa xb] 26);have kO:Z9 (Below w0.heap.size w0 (wr.drew.drew)):=Hd (hO.o.trans (kC.o.below.mono hO.o.size));have hC:=Fu kU.o kC.o.below;have hL:=Hd hC;obtain⟨z0,z1,z2,z3,z4,z5⟩:=Sb _ _ _ _ _ _ _ _ _ _ _ _ hC;have kF:Z9 (((wr.alloc (.cells #[.int .i64 x0,.string x1,.int .i64 x2,.slice x3 x4 x5,.slice x6 x7 x8,.slice x9 xa xb] 26)).drew.drew).ownsRow w0.heap.size 26 6 (.slice (some ⟨g,0,none⟩) F.length c) F.length vs):=Hd (kG.o.1.alloc (.cells #[.int .i64 x0,.string x1,.int .i64 x2,.slice x3 x4 x5,.slice x6 x7 x8,.slice x9 xa xb] 26));clear kS kR hC;go_wp2_with (at_builtin;refine wpList_plain rfl fun K hK=>?_;go_loud (refine Cb _ _ 22 rfl w0.heap.size 26 i0 (.agg #[.int .i64 0,.string ⟨#[]⟩,.int .i64 0,.slice none 0 0,.slice none 0 0,.slice none 0 0]) 6 104 Tryz.underlying22 aY bB bC bD rfl (by decide) _ _ _ rfl kF.o ⟨wr.heap.size,0,none⟩ 1 1 [.int .i64 x0,.string x1,.int .i64 x2,.slice x3 x4 x5,.slice x6 x7 x8,.slice x9 xa xb] rfl rfl ?a0 ?a1 ?a2 ?a3 ?a4 ?_))
   case a0=>exact aD.o
   case a1=>
    intro u hu;simp only[List.mem_cons,List.not_mem_nil,or_false]at hu;rcases hu with rfl|rfl|rfl|rfl|rfl|rfl <;> rfl
   case a2=>have:=hW.o;unfold maxLen;omega
   case a3=>have:=hW.o;omega
   case a4=>
    have h3:((wr.alloc (.cells #[.int .i64 x0,.string x1,.int .i64 x2,.slice x3 x4 x5,.slice x6 x7 x8,.slice x9 xa xb] 26)).drew.drew).heap.size=(wr).heap.size+1:=World.size_alloc _ _;have h4:(wr).heap.size=(wr.drew.drew).heap.size:=rfl;have h5:=kO.o.size;show w0.heap.size<=((wr.alloc (.cells #[.int .i64 x0,.string x1,.int .i64 x2,.slice x3 x4 x5,.slice x6 x7 x8,.slice x9 xa xb] 26)).drew.drew).heap.size;omega
   intro v5 w5 hJ kJ _ hH;refine hK _ _ ?_;clear hK K z0 z1 z2 z3 z4 z5;have kM:=Hb kO.o kG.o.1 kG.o.2 HT.o hJ kJ;have hI:w5.heap[w.heap.size]?=some (.cells #[.int .i64 x0,.string x1,.int .i64 x2,.slice x3 x4 x5,.slice x6 x7 x8,.slice x9 xa xb] 26 (0,0)):=by
    have aS:=(Array.getElem?_eq_some_iff.1 hL.o).1;have h3:((wr.alloc (.cells #[.int .i64 x0,.string x1,.int .i64 x2,.slice x3 x4 x5,.slice x6 x7 x8,.slice x9 xa xb] 26)).drew.drew).heap.size=(wr).heap.size+1:=World.size_alloc _ _;have h4:(wr).heap.size=(wr.drew.drew).heap.size:=rfl;have h6:((wr.alloc (.cells #[.int .i64 x0,.string x1,.int .i64 x2,.slice x3 x4 x5,.slice x6 x7 x8,.slice x9 xa xb] 26)).drew.drew).heap[w.heap.size]?=(wr).heap[w.heap.size]?:=Below.heap_alloc (wr) _ _ (by omega);exact (kJ.block w.heap.size (by show w.heap.size<((wr.alloc (.cells #[.int .i64 x0,.string x1,.int .i64 x2,.slice x3 x4 x5,.slice x6 x7 x8,.slice x9 xa xb] 26)).drew.drew).heap.size;omega) (fun e=>kW.o e.symm)).trans (h6.trans hL.o)
   rcases Fc.of_out kM.1 with ⟨-,kL⟩|⟨g5,c5,kN,hT,hV⟩
   ·exact absurd kL (by simp)
   have hU:g5≠w.heap.size:=by
    rcases hH with h|h
    ·rw[kN]at h;exact fun e=>kW.o (by rw[<-h,<-e];rfl)
    ·rw[kN]at h;have aS:=(Array.getElem?_eq_some_iff.1 hL.o).1;have h2:g5=(wr).heap.size+1:=(by first|exact Option.some.inj h|(have h3:=Option.some.inj h;simpa using h3));have h4:(wr).heap.size=(wr.drew.drew).heap.size:=rfl;omega
   subst kN;have kD:=Hd hV;have aF:=Hd hU;have kB:=Hd hT;have kZ:=Hd kM.2;have hP:=Hd hI;have aL:Z9 ((F++[t]).length=F.length+1):=Hd (by simp);rw[aL.o];have aT:wrap64 (((F.length+1:Nat):Int) - 1)=((F.length:Nat):Int):=by have:=hW.o;rw[Cm (by omega) (by omega)];omega
   clear hJ kJ kM hI hH hV hU hT;go_wp2_with fail
   go_loopw [6] (fun v wr=>∃(i:Nat) (x:Ty),0<=i/\i<=F.length/\v=.int .i64 i/\Fc K' w0 wr g5 c5 (F.take i++x :: F.drop i)/\wr.heap[w.heap.size]?=some (.cells #[.int .i64 x0,.string x1,.int .i64 x2,.slice x3 x4 x5,.slice x6 x7 x8,.slice x9 xa xb] 26 (0,0))/\Below w0.heap.size w0 wr) (fun v _=>(intOf v).toNat)
   case atStart=>exact⟨F.length,t,aJ.o,Nat.le_refl _,by first|rfl|rw[aT],by rw[List.take_length,List.drop_length];exact kD.o,hP.o,kZ.o⟩
   case round=>
    obtain⟨i,x,kQ,kP,rfl,hD,hC,hR⟩:=hrel;have aN:=Hd hD;have aC:=Hd hC;have bE:=Hd hR;by_cases hN:0<i
    ·obtain⟨m,rfl⟩:∃m,i=m+1:=⟨i - 1,by omega⟩;have hm:m<F.length:=(by omega);have hS:(F.take (m+1)++x :: F.drop (m+1))[m]?=some F[m]:=by
      rw[List.getElem?_append_left (by simp;omega),List.getElem?_take,if_pos (by omega)];exact List.getElem?_eq_getElem hm
     obtain⟨p0,p1,p2,p3,p4,p5,p6,p7,p8,p9,pa,pb,hp,hZ⟩:=hD.sixAt hS;have hF:(F.take (m+1)).length=m+1:=(by simp;omega);obtain⟨r0,r1,r2,r3,r4,r5,r6,r7,r8,r9,ra,rb,hr,-⟩:=hD.sixAt (i:=m+1) (t:=x) (by rw[List.getElem?_append_right (by omega),hF,Nat.sub_self];rfl);have hE:=hD.set hZ;rw[hF]at hE;have kH:Z9 (Fc K' w0 (wr.setCells g5 ((m+1)*6) [.int .i64 p0,.string p1,.int .i64 p2,.slice p3 p4 p5,.slice p6 p7 p8,.slice p9 pa pb]) g5 c5 (F.take m++F[m] :: F.drop m)):=Hd (by
      have e1:F.take (m+1)=F.take m++[F[m]]:=List.take_succ_eq_append_getElem hm;rw[e1,List.append_assoc]at hE;rw[List.drop_eq_getElem_cons hm];exact hE)
     have aA:Z9 ((wr.setCells g5 ((m+1)*6) [.int .i64 p0,.string p1,.int .i64 p2,.slice p3 p4 p5,.slice p6 p7 p8,.slice p9 pa pb]).heap[w.heap.size]?=some (.cells #[.int .i64 x0,.string x1,.int .i64 x2,.slice x3 x4 x5,.slice x6 x7 x8,.slice x9 xa xb] 26 (0,0))):=Hd (by rw[Hv (fun e=>aF.o e.symm)];exact hC);have aB:Z9 (Below w0.heap.size w0 (wr.setCells g5 ((m+1)*6) [.int .i64 p0,.string p1,.int .i64 p2,.slice p3 p4 p5,.slice p6 p7 p8,.slice p9 pa pb])):=Hd (Eb kB.o _ _ _ hR);obtain⟨cur,hG,-⟩:=hD.blk;have aQ:∀o,wr.frozen? ⟨g5,o,none⟩=false:=fun o=>Lib.frozen_of_heap hG o;obtain⟨p0',p1',p2',p3',p4',p5'⟩:=hp;obtain⟨r0',r1',r2',r3',r4',r5'⟩:=hr;have t1:decide ((0:Int)<((m+1:Nat):Int))=true:=decide_eq_true (by omega);have t2:0<m+1:=hN;have t3:0<=m:=(by omega);have t4:(0:Int)<=(m:Int):=(by omega);have t5:(0:Int)<(m:Int)+1:=(by omega);have t6:decide ((0:Int)<(m:Int)+1)=true:=decide_eq_true t5;have t7:decide (0<m+1)=true:=decide_eq_true t2;have i0:(0:Int)<=(m:Int):=(by omega);have i1:(m:Int)<(F.length:Int)+1:=(by omega);have i2:(m:Int)+1<(F.length:Int)+1:=(by omega);have hX:wrap64 (((m+1:Nat):Int) - 1)=((m:Nat):Int):=(by have:=hW.o;rw[Cm (by omega) (by omega)];omega);have kT:wrap64 (m:Int)=(m:Int):=Cm (by omega) (by have:=hW.o;omega);have aK:Z9 (0<=m):=Hd (by omega);have aM:Z9 (m<=F.length):=Hd (by omega);clear kQ kP hD hC hR hS hE hZ hG hF hN;go_wp2_with fail;refine⟨⟨m,F[m],aK.o,aM.o,by first|rfl|(rw[hX])|(rw[kT]),kH.o,aA.o,aB.o⟩,?_⟩;first|(simp only[intOf];omega)|(rw[hX];simp only[intOf];omega)|(rw[kT];simp only[intOf];omega)
    ·have kK:i=0:=(by omega);have hE:=hD.set HT.o;have hF:(F.take i).length=i:=(by simp;omega);rw[hF]at hE;obtain⟨r0,r1,r2,r3,r4,r5,r6,r7,r8,r9,ra,rb,hr,-⟩:=hD.sixAt (i:=i) (t:=x) (by rw[List.getElem?_append_right (by omega),hF,Nat.sub_self];rfl);have hM:Z9 (Cs K' w0 (wr.setCells g5 (i*6) [.int .i64 x0,.string x1,.int .i64 x2,.slice x3 x4 x5,.slice x6 x7 x8,.slice x9 xa xb]) (.slice (some ⟨g5,0,none⟩) (F.length+1) c5) (Fv t F)/\Below w0.heap.size w0 (wr.setCells g5 (i*6) [.int .i64 x0,.string x1,.int .i64 x2,.slice x3 x4 x5,.slice x6 x7 x8,.slice x9 xa xb])):=Hd ⟨by
      have h1:=hE.o kB.o;have e:F.take i++t :: F.drop i=Fv t F:=(by rw[kK];exact kE.o.symm);have hl:(F.take i++t :: F.drop i).length=F.length+1:=(by simp;omega);rw[hl,e]at h1;exact h1,Eb kB.o _ _ _ hR⟩
     obtain⟨cur,hG,-⟩:=hD.blk;have aQ:∀o,wr.frozen? ⟨g5,o,none⟩=false:=fun o=>Lib.frozen_of_heap hG o;obtain⟨z0,z1,z2,z3,z4,z5⟩:=Sb _ _ _ _ _ _ _ _ _ _ _ _ hC;obtain⟨r0',r1',r2',r3',r4',r5'⟩:=hr;rw[kK]at hM r0' r1' r2' r3' r4' r5';have t1:decide ((0:Int)<(i:Int))=false:=decide_eq_false (by omega);have t2:¬ 0<i:=hN;have i0:(0:Int)<=(0:Int):=(by omega);have i2:(0:Int)<(F.length:Int)+1:=(by omega);clear kQ kP hD hC hR hE hG hF kK hN;go_wp2_with fail;go_ret
     exact⟨_,rfl,hM.o.1,hM.o.2⟩
  ·obtain⟨j,bA⟩:∃j,k=j+1:=⟨k - 1,by omega⟩;have aR:j<F.length:=by omega
   obtain⟨p0,p1,p2,p3,p4,p5,p6,p7,p8,p9,pa,pb,hp,hZ⟩:=(bG.o.later hb.below).six aR;have hC:=Fu kU.o hb.below;have bF:=Hd hC;have h6:=Sb _ _ _ _ _ _ _ _ _ _ _ _ hC;have KO:Z9 (∀wx,Below wr.heap.size wr wx->Calls Tryz.prog 20 #[.agg #[.int .i64 p0,.string p1,.int .i64 p2,.slice p3 p4 p5,.slice p6 p7 p8,.slice p9 pa pb],.agg #[.int .i64 x0,.string x1,.int .i64 x2,.slice x3 x4 x5,.slice x6 x7 x8,.slice x9 xa xb]] wx fun e w'=>e=.returned (.int .i64 (B5 F[j] t))/\Gw wx w'):=Hd fun wx hx=>Ke F[j] K' K' t wx _ _ (hZ.later ((hO.o.trans (hb.below.mono hO.o.size)).trans (hx.mono (Nat.le_trans hO.o.size hb.below.size)))) (HT.o.later ((hO.o.trans (hb.below.mono hO.o.size)).trans (hx.mono (Nat.le_trans hO.o.size hb.below.size))));have HC:Z9 (∀wx,Below wr.heap.size wr wx->(wx.cell? ⟨g,j*6,none⟩=some (.int .i64 p0)/\wx.cell? ⟨g,j*6+1,none⟩=some (.string p1)/\wx.cell? ⟨g,j*6+2,none⟩=some (.int .i64 p2)/\wx.cell? ⟨g,j*6+3,none⟩=some (.slice p3 p4 p5)/\wx.cell? ⟨g,j*6+4,none⟩=some (.slice p6 p7 p8)/\wx.cell? ⟨g,j*6+5,none⟩=some (.slice p9 pa pb))/\wx.cell? ⟨w.heap.size,0,none⟩=some (.int .i64 x0)/\wx.cell? ⟨w.heap.size,1,none⟩=some (.string x1)/\wx.cell? ⟨w.heap.size,2,none⟩=some (.int .i64 x2)/\wx.cell? ⟨w.heap.size,3,none⟩=some (.slice x3 x4 x5)/\wx.cell? ⟨w.heap.size,4,none⟩=some (.slice x6 x7 x8)/\wx.cell? ⟨w.heap.size,5,none⟩=some (.slice x9 xa xb)):=Hd fun wx hx=>⟨⟨Aa hx hp.1,Aa hx hp.2.1,Aa hx hp.2.2.1,Aa hx hp.2.2.2.1,Aa hx hp.2.2.2.2.1,Aa hx hp.2.2.2.2.2⟩,⟨Aa hx h6.1,Aa hx h6.2.1,Aa hx h6.2.2.1,Aa hx h6.2.2.2.1,Aa hx h6.2.2.2.2.1,Aa hx h6.2.2.2.2.2⟩⟩;have kA:=Hd (Gb F[j] t);have aV:Z9 (B5 F[j] t = -1->∀a (h:a<F.length),a+1=k->B5 F[a] t = -1):=Hd fun e a h ha=>by
    have:a=j:=by omega
    subst this;exact e
   have aG:Z9 (B5 F[j] t=1->∀a (h:a<F.length),j<=a->B5 F[a] t=1):=Hd fun e a h ha=>by
    rcases Nat.lt_or_ge j a with h1|h1
    ·exact aH.o a h (by omega)
    ·have:a=j:=by omega
     subst this;exact e
   have aW:Z9 (B5 F[j] t=0->Fv t F=F):=Hd fun e=>Xb HA.o aR e;have aU:=Hd bA;generalize B5 F[j] t=oo at KO kA aV aG aW;have t1:decide ((0:Int)<(k:Int))=true:=by simp;omega
   have t2:0<k:=by omega
   have hX:wrap64 ((k:Int) - 1)=((j:Nat):Int):=by rw[Cm (by omega) (by omega)];omega
   have wr1':IntKind.i64.wrap ((k:Int) - 1)=((j:Nat):Int):=by
    have e:IntKind.i64.wrap ((k:Int) - 1)=wrap64 ((k:Int) - 1):=(by unfold wrap64;exact IntKind.wrap_i64 _);rw[e,hX]
   have i0':(0:Int)<=(j:Int):=by omega
   have i1':(j:Int)<(F.length:Int):=by omega
   have aI:=Hd hk;clear hN hb hp hZ hC h6 aZ bA aR hk;go_wp2_with fail;refine wp_region_held_drew (S:=(fun w'=>(w'.cell? ⟨g,j*6,none⟩=some (.int .i64 p0)/\w'.cell? ⟨g,j*6+1,none⟩=some (.string p1)/\w'.cell? ⟨g,j*6+2,none⟩=some (.int .i64 p2)/\w'.cell? ⟨g,j*6+3,none⟩=some (.slice p3 p4 p5)/\w'.cell? ⟨g,j*6+4,none⟩=some (.slice p6 p7 p8)/\w'.cell? ⟨g,j*6+5,none⟩=some (.slice p9 pa pb))/\w'.cell? ⟨w.heap.size,0,none⟩=some (.int .i64 x0)/\w'.cell? ⟨w.heap.size,1,none⟩=some (.string x1)/\w'.cell? ⟨w.heap.size,2,none⟩=some (.int .i64 x2)/\w'.cell? ⟨w.heap.size,3,none⟩=some (.slice x3 x4 x5)/\w'.cell? ⟨w.heap.size,4,none⟩=some (.slice x6 x7 x8)/\w'.cell? ⟨w.heap.size,5,none⟩=some (.slice x9 xa xb))) (by kernel_rfl) (HC.o _ (Below.refl _ _).drew) (fun hB=>?_);refine Ab.s [0,1,2,3,4,5,6,7,8] ?_
   iterate 9 (refine Ab.k (so rfl) hB ?_;try simp only[Act.put,Bd,Be,Bf])
   refine Ab.d ?_;refine wpAnyH_ready (rs:=[9]) (by kernel_rfl) (by simp) ?_;refine AllReadyH.cons (sd (some 18) rfl) (fun K hK=>?_) AllReadyH.nil;go_simp;refine (KO.o _ (Below.refl _ _).drew).mono ?_;rintro e w2 ⟨rfl,aO⟩;have hY:=Hd ((Below.refl wr.heap.size wr).drew.trans aO.below);have aE:=Hd ((HB.o.drew).trans aO);clear aO;go_wp2_with fail;refine hK.out _ _ (HC.o _ hY.o) (fun hB=>?_);clear hK K;try simp only[Act.put,Bd,Be,Bf]
   refine Ab.s [10,11] ?_
   iterate 2 (refine Ab.k (so rfl) hB ?_;try simp only[Act.put,Bd,Be,Bf])
   refine Ab.d ?_;refine wpAnyH_done (by kernel_rfl) ?_ _;clear hB;try clear hB
   rcases kA.o with rfl|rfl|rfl
   ·have u1:decide ((0:Int) < -1)=false:=(by decide);go_wp2_with fail;refine wp_region_held_drew (S:=(fun w'=>(w'.cell? ⟨g,j*6,none⟩=some (.int .i64 p0)/\w'.cell? ⟨g,j*6+1,none⟩=some (.string p1)/\w'.cell? ⟨g,j*6+2,none⟩=some (.int .i64 p2)/\w'.cell? ⟨g,j*6+3,none⟩=some (.slice p3 p4 p5)/\w'.cell? ⟨g,j*6+4,none⟩=some (.slice p6 p7 p8)/\w'.cell? ⟨g,j*6+5,none⟩=some (.slice p9 pa pb))/\w'.cell? ⟨w.heap.size,0,none⟩=some (.int .i64 x0)/\w'.cell? ⟨w.heap.size,1,none⟩=some (.string x1)/\w'.cell? ⟨w.heap.size,2,none⟩=some (.int .i64 x2)/\w'.cell? ⟨w.heap.size,3,none⟩=some (.slice x3 x4 x5)/\w'.cell? ⟨w.heap.size,4,none⟩=some (.slice x6 x7 x8)/\w'.cell? ⟨w.heap.size,5,none⟩=some (.slice x9 xa xb))) (by kernel_rfl) (HC.o _ hY.o.drew) (fun hB=>?_);refine Ab.s [0,1,2,3,4,5,6,7,8] ?_
    iterate 9 (refine Ab.k (so rfl) hB ?_;try simp only[Act.put,Bd,Be,Bf])
    refine Ab.d ?_;refine wpAnyH_ready (rs:=[9]) (by kernel_rfl) (by simp) ?_;refine AllReadyH.cons (sd (some 32) rfl) (fun K hK=>?_) AllReadyH.nil;go_simp;refine (KO.o _ (hY.o.drew)).mono ?_;rintro e w4 ⟨rfl,kI⟩;have kY:=Hd (hY.o.drew.trans (kI.below.mono hY.o.size));have kV:=Hd ((aE.o.drew).trans kI);clear kI;go_wp2_with fail;refine hK.out _ _ (HC.o _ kY.o) (fun hB=>?_);clear hK K;try simp only[Act.put,Bd,Be,Bf]
    refine Ab.s [10,11] ?_
    iterate 2 (refine Ab.k (so rfl) hB ?_;try simp only[Act.put,Bd,Be,Bf])
    refine Ab.d ?_;refine wpAnyH_done (by kernel_rfl) ?_ _;clear hB
    (try clear hB)
    clear u1 KO HC aG kA;clear t1 t2 hX wr1' i0' i1';have kC:Z9 (Gw (w.alloc (.cells #[.int .i64 x0,.string x1,.int .i64 x2,.slice x3 x4 x5,.slice x6 x7 x8,.slice x9 xa xb] 26)) (w4)):=Hd (kV.o);have aJ:Z9 (k<=F.length):=Hd (aI.o);have kE:Z9 (Fv t F=F.take k++t :: F.drop k):=Hd (U8 HA.o aI.o aH.o (aV.o (by first|rfl|trivial)));obtain⟨vs,kS,kR⟩:=hQ.o _ kC.o;have kG:=Hd (And.intro kS kR);have aD:=Hd (Dz (w4) [.int .i64 x0,.string x1,.int .i64 x2,.slice x3 x4 x5,.slice x6 x7 x8,.slice x9 xa xb] 26);have kO:Z9 (Below w0.heap.size w0 (w4)):=Hd (hO.o.trans (kC.o.below.mono hO.o.size));have hC:=Fu kU.o kC.o.below;have hL:=Hd hC;obtain⟨z0,z1,z2,z3,z4,z5⟩:=Sb _ _ _ _ _ _ _ _ _ _ _ _ hC;have kF:Z9 ((w4.alloc (.cells #[.int .i64 x0,.string x1,.int .i64 x2,.slice x3 x4 x5,.slice x6 x7 x8,.slice x9 xa xb] 26)).ownsRow w0.heap.size 26 6 (.slice (some ⟨g,0,none⟩) F.length c) F.length vs):=Hd (kG.o.1.alloc (.cells #[.int .i64 x0,.string x1,.int .i64 x2,.slice x3 x4 x5,.slice x6 x7 x8,.slice x9 xa xb] 26));clear kS kR hC;go_wp2_with (at_builtin;refine wpList_plain rfl fun K hK=>?_;go_loud (refine Cb _ _ 22 rfl w0.heap.size 26 i0 (.agg #[.int .i64 0,.string ⟨#[]⟩,.int .i64 0,.slice none 0 0,.slice none 0 0,.slice none 0 0]) 6 104 Tryz.underlying22 aY bB bC bD rfl (by decide) _ _ _ rfl kF.o ⟨w4.heap.size,0,none⟩ 1 1 [.int .i64 x0,.string x1,.int .i64 x2,.slice x3 x4 x5,.slice x6 x7 x8,.slice x9 xa xb] rfl rfl ?a0 ?a1 ?a2 ?a3 ?a4 ?_))
    case a0=>exact aD.o
    case a1=>
     intro u hu;simp only[List.mem_cons,List.not_mem_nil,or_false]at hu;rcases hu with rfl|rfl|rfl|rfl|rfl|rfl <;> rfl
    case a2=>have:=hW.o;unfold maxLen;omega
    case a3=>have:=hW.o;omega
    case a4=>
     have h3:(w4.alloc (.cells #[.int .i64 x0,.string x1,.int .i64 x2,.slice x3 x4 x5,.slice x6 x7 x8,.slice x9 xa xb] 26)).heap.size=(w4).heap.size+1:=World.size_alloc _ _;have h4:(w4).heap.size=(w4).heap.size:=rfl;have h5:=kO.o.size;show w0.heap.size<=(w4.alloc (.cells #[.int .i64 x0,.string x1,.int .i64 x2,.slice x3 x4 x5,.slice x6 x7 x8,.slice x9 xa xb] 26)).heap.size;omega
    intro v5 w5 hJ kJ _ hH;refine hK _ _ ?_;clear hK K z0 z1 z2 z3 z4 z5;have kM:=Hb kO.o kG.o.1 kG.o.2 HT.o hJ kJ;have hI:w5.heap[w.heap.size]?=some (.cells #[.int .i64 x0,.string x1,.int .i64 x2,.slice x3 x4 x5,.slice x6 x7 x8,.slice x9 xa xb] 26 (0,0)):=by
     have aS:=(Array.getElem?_eq_some_iff.1 hL.o).1;have h3:(w4.alloc (.cells #[.int .i64 x0,.string x1,.int .i64 x2,.slice x3 x4 x5,.slice x6 x7 x8,.slice x9 xa xb] 26)).heap.size=(w4).heap.size+1:=World.size_alloc _ _;have h4:(w4).heap.size=(w4).heap.size:=rfl;have h6:(w4.alloc (.cells #[.int .i64 x0,.string x1,.int .i64 x2,.slice x3 x4 x5,.slice x6 x7 x8,.slice x9 xa xb] 26)).heap[w.heap.size]?=(w4).heap[w.heap.size]?:=Below.heap_alloc (w4) _ _ (by omega);exact (kJ.block w.heap.size (by show w.heap.size<(w4.alloc (.cells #[.int .i64 x0,.string x1,.int .i64 x2,.slice x3 x4 x5,.slice x6 x7 x8,.slice x9 xa xb] 26)).heap.size;omega) (fun e=>kW.o e.symm)).trans (h6.trans hL.o)
    rcases Fc.of_out kM.1 with ⟨-,kL⟩|⟨g5,c5,kN,hT,hV⟩
    ·exact absurd kL (by simp)
    have hU:g5≠w.heap.size:=by
     rcases hH with h|h
     ·rw[kN]at h;exact fun e=>kW.o (by rw[<-h,<-e];rfl)
     ·rw[kN]at h;have aS:=(Array.getElem?_eq_some_iff.1 hL.o).1;have h2:g5=(w4).heap.size+1:=(by first|exact Option.some.inj h|(have h3:=Option.some.inj h;simpa using h3));have h4:(w4).heap.size=(w4).heap.size:=rfl;omega
    subst kN;have kD:=Hd hV;have aF:=Hd hU;have kB:=Hd hT;have kZ:=Hd kM.2;have hP:=Hd hI;have aL:Z9 ((F++[t]).length=F.length+1):=Hd (by simp);rw[aL.o];have aT:wrap64 (((F.length+1:Nat):Int) - 1)=((F.length:Nat):Int):=(by have:=hW.o;rw[Cm (by omega) (by omega)];omega);clear hJ kJ kM hI hH hV hU hT;go_wp2_with fail
    go_loopw [6] (fun v wr=>∃(i:Nat) (x:Ty),k<=i/\i<=F.length/\v=.int .i64 i/\Fc K' w0 wr g5 c5 (F.take i++x :: F.drop i)/\wr.heap[w.heap.size]?=some (.cells #[.int .i64 x0,.string x1,.int .i64 x2,.slice x3 x4 x5,.slice x6 x7 x8,.slice x9 xa xb] 26 (0,0))/\Below w0.heap.size w0 wr) (fun v _=>(intOf v).toNat)
    case atStart=>exact⟨F.length,t,aJ.o,Nat.le_refl _,by first|rfl|rw[aT],by rw[List.take_length,List.drop_length];exact kD.o,hP.o,kZ.o⟩
    case round=>
     obtain⟨i,x,kQ,kP,rfl,hD,hC,hR⟩:=hrel;have aN:=Hd hD;have aC:=Hd hC;have bE:=Hd hR;by_cases hN:k<i
     ·obtain⟨m,rfl⟩:∃m,i=m+1:=⟨i - 1,by omega⟩;have hm:m<F.length:=(by omega);have hS:(F.take (m+1)++x :: F.drop (m+1))[m]?=some F[m]:=by
       rw[List.getElem?_append_left (by simp;omega),List.getElem?_take,if_pos (by omega)];exact List.getElem?_eq_getElem hm
      obtain⟨p0,p1,p2,p3,p4,p5,p6,p7,p8,p9,pa,pb,hp,hZ⟩:=hD.sixAt hS;have hF:(F.take (m+1)).length=m+1:=(by simp;omega);obtain⟨r0,r1,r2,r3,r4,r5,r6,r7,r8,r9,ra,rb,hr,-⟩:=hD.sixAt (i:=m+1) (t:=x) (by rw[List.getElem?_append_right (by omega),hF,Nat.sub_self];rfl);have hE:=hD.set hZ;rw[hF]at hE;have kH:Z9 (Fc K' w0 (wr.setCells g5 ((m+1)*6) [.int .i64 p0,.string p1,.int .i64 p2,.slice p3 p4 p5,.slice p6 p7 p8,.slice p9 pa pb]) g5 c5 (F.take m++F[m] :: F.drop m)):=Hd (by
       have e1:F.take (m+1)=F.take m++[F[m]]:=List.take_succ_eq_append_getElem hm;rw[e1,List.append_assoc]at hE;rw[List.drop_eq_getElem_cons hm];exact hE)
      have aA:Z9 ((wr.setCells g5 ((m+1)*6) [.int .i64 p0,.string p1,.int .i64 p2,.slice p3 p4 p5,.slice p6 p7 p8,.slice p9 pa pb]).heap[w.heap.size]?=some (.cells #[.int .i64 x0,.string x1,.int .i64 x2,.slice x3 x4 x5,.slice x6 x7 x8,.slice x9 xa xb] 26 (0,0))):=Hd (by rw[Hv (fun e=>aF.o e.symm)];exact hC);have aB:Z9 (Below w0.heap.size w0 (wr.setCells g5 ((m+1)*6) [.int .i64 p0,.string p1,.int .i64 p2,.slice p3 p4 p5,.slice p6 p7 p8,.slice p9 pa pb])):=Hd (Eb kB.o _ _ _ hR);obtain⟨cur,hG,-⟩:=hD.blk;have aQ:∀o,wr.frozen? ⟨g5,o,none⟩=false:=fun o=>Lib.frozen_of_heap hG o;obtain⟨p0',p1',p2',p3',p4',p5'⟩:=hp;obtain⟨r0',r1',r2',r3',r4',r5'⟩:=hr;have t1:decide ((k:Int)<((m+1:Nat):Int))=true:=decide_eq_true (by omega);have t2:k<m+1:=hN;have t3:k<=m:=(by omega);have t4:(k:Int)<=(m:Int):=(by omega);have t5:(k:Int)<(m:Int)+1:=(by omega);have t6:decide ((k:Int)<(m:Int)+1)=true:=decide_eq_true t5;have t7:decide (k<m+1)=true:=decide_eq_true t2;have i0:(0:Int)<=(m:Int):=(by omega);have i1:(m:Int)<(F.length:Int)+1:=(by omega);have i2:(m:Int)+1<(F.length:Int)+1:=(by omega);have hX:wrap64 (((m+1:Nat):Int) - 1)=((m:Nat):Int):=(by have:=hW.o;rw[Cm (by omega) (by omega)];omega);have kT:wrap64 (m:Int)=(m:Int):=Cm (by omega) (by have:=hW.o;omega);have aK:Z9 (k<=m):=Hd (by omega);have aM:Z9 (m<=F.length):=Hd (by omega);clear kQ kP hD hC hR hS hE hZ hG hF hN;go_wp2_with fail;refine⟨⟨m,F[m],aK.o,aM.o,by first|rfl|(rw[hX])|(rw[kT]),kH.o,aA.o,aB.o⟩,?_⟩;first|(simp only[intOf];omega)|(rw[hX];simp only[intOf];omega)|(rw[kT];simp only[intOf];omega)
     ·have kK:i=k:=(by omega);have hE:=hD.set HT.o;have hF:(F.take i).length=i:=(by simp;omega);rw[hF]at hE;obtain⟨r0,r1,r2,r3,r4,r5,r6,r7,r8,r9,ra,rb,hr,-⟩:=hD.sixAt (i:=i) (t:=x) (by rw[List.getElem?_append_right (by omega),hF,Nat.sub_self];rfl);have hM:Z9 (Cs K' w0 (wr.setCells g5 (i*6) [.int .i64 x0,.string x1,.int .i64 x2,.slice x3 x4 x5,.slice x6 x7 x8,.slice x9 xa xb]) (.slice (some ⟨g5,0,none⟩) (F.length+1) c5) (Fv t F)/\Below w0.heap.size w0 (wr.setCells g5 (i*6) [.int .i64 x0,.string x1,.int .i64 x2,.slice x3 x4 x5,.slice x6 x7 x8,.slice x9 xa xb])):=Hd ⟨by
       have h1:=hE.o kB.o;have e:F.take i++t :: F.drop i=Fv t F:=(by rw[kK];exact kE.o.symm);have hl:(F.take i++t :: F.drop i).length=F.length+1:=(by simp;omega);rw[hl,e]at h1;exact h1,Eb kB.o _ _ _ hR⟩
      obtain⟨cur,hG,-⟩:=hD.blk;have aQ:∀o,wr.frozen? ⟨g5,o,none⟩=false:=fun o=>Lib.frozen_of_heap hG o;obtain⟨z0,z1,z2,z3,z4,z5⟩:=Sb _ _ _ _ _ _ _ _ _ _ _ _ hC;obtain⟨r0',r1',r2',r3',r4',r5'⟩:=hr;rw[kK]at hM r0' r1' r2' r3' r4' r5';have t1:decide ((k:Int)<(i:Int))=false:=decide_eq_false (by omega);have t2:¬ k<i:=hN;have i0:(0:Int)<=(k:Int):=(by omega);have i2:(k:Int)<(F.length:Int)+1:=(by omega);clear kQ kP hD hC hR hE hG hF kK hN;go_wp2_with fail;go_ret
      exact⟨_,rfl,hM.o.1,hM.o.2⟩
   ·go_wp2_with fail;refine wp_region_held_drew (S:=(fun w'=>(w'.cell? ⟨g,j*6,none⟩=some (.int .i64 p0)/\w'.cell? ⟨g,j*6+1,none⟩=some (.string p1)/\w'.cell? ⟨g,j*6+2,none⟩=some (.int .i64 p2)/\w'.cell? ⟨g,j*6+3,none⟩=some (.slice p3 p4 p5)/\w'.cell? ⟨g,j*6+4,none⟩=some (.slice p6 p7 p8)/\w'.cell? ⟨g,j*6+5,none⟩=some (.slice p9 pa pb))/\w'.cell? ⟨w.heap.size,0,none⟩=some (.int .i64 x0)/\w'.cell? ⟨w.heap.size,1,none⟩=some (.string x1)/\w'.cell? ⟨w.heap.size,2,none⟩=some (.int .i64 x2)/\w'.cell? ⟨w.heap.size,3,none⟩=some (.slice x3 x4 x5)/\w'.cell? ⟨w.heap.size,4,none⟩=some (.slice x6 x7 x8)/\w'.cell? ⟨w.heap.size,5,none⟩=some (.slice x9 xa xb))) (by kernel_rfl) (HC.o _ hY.o.drew) (fun hB=>?_);refine Ab.s [0,1,2,3,4,5,6,7,8] ?_
    iterate 9 (refine Ab.k (so rfl) hB ?_;try simp only[Act.put,Bd,Be,Bf])
    refine Ab.d ?_;refine wpAnyH_ready (rs:=[9]) (by kernel_rfl) (by simp) ?_;refine AllReadyH.cons (sd (some 32) rfl) (fun K hK=>?_) AllReadyH.nil;go_simp;refine (KO.o _ (hY.o.drew)).mono ?_;rintro e w4 ⟨rfl,kI⟩;have kY:=Hd (hY.o.drew.trans (kI.below.mono hY.o.size));have kV:=Hd ((aE.o.drew).trans kI);clear kI;go_wp2_with fail;refine hK.out _ _ (HC.o _ kY.o) (fun hB=>?_);clear hK K;try simp only[Act.put,Bd,Be,Bf]
    refine Ab.s [10,11] ?_
    iterate 2 (refine Ab.k (so rfl) hB ?_;try simp only[Act.put,Bd,Be,Bf])
    refine Ab.d ?_;refine wpAnyH_done (by kernel_rfl) ?_ _;clear hB;clear t1 t2 hX wr1' i0' i1';go_wp2_with fail;go_ret
    refine⟨_,rfl,?_,?_⟩
    ·rw[aW.o (by first|rfl|trivial)];exact hQ.o _ kV.o
    ·exact hO.o.trans (kV.o.below.mono hO.o.size)
   ·have wr1j:=hX;clear t1 t2;go_wp2_with fail;refine⟨⟨j,by have:=aU.o;have:=aI.o;omega,by first|rfl|rw[wr1j],aG.o rfl,aE.o⟩,?_⟩;have:=aU.o;first|(rw[wr1j];simp only[intOf];omega)|(simp only[intOf];omega)
theorem eqT (x s:Z8):(x.toList == s.toList)=decide (x=s):=by
 rw[Bool.eq_iff_iff,beq_iff_eq,decide_eq_true_iff,ByteArray.toList_eq,ByteArray.toList_eq];exact⟨fun h=>E7 h,fun h=>by rw[h]⟩
structure Cg (w:World) (l:List Z8) (A:Option Addr):Prop where
 ex:∃b o,(0<l.length->A=some ⟨b,o,none⟩)/\l.length<=1000000000000000/\∀i (h:i<l.length),w.cell? ⟨b,o+i,none⟩=some (.string l[i])
def Dc (l:List Z8) (s:Z8):Bool:=l.any fun x=>decide (x=s)
theorem Zv {l:List Z8}{i:Nat}(h:i<l.length) (s:Z8):Dc (l.drop i) s=(decide (l[i]=s) || Dc (l.drop (i+1)) s):=by rw[List.drop_eq_getElem_cons h];rfl
theorem Ta {w:World}{l:List Z8}{A:Option Addr}{c:Nat}(hL:Cg w l A) (s:Z8) :
  Calls Tryz.prog 17 #[.slice A l.length c,.string s] w fun e w'=>e=.returned (.bool (Dc l s))/\w'=w:=by
 obtain⟨b,o,hA,hJ,hC⟩:=hL;have hF:=Hd hC;have hE:=Hd hA;clear hC hA;go_enter Tryz.func17,Tryz.ntmps17;go_wp2_with fail
 go_loopw [5] (fun v wr=>∃(i:Nat),i<=l.length/\v=.int .i64 i/\Dc l s=Dc (l.drop i) s/\wr=w) (fun v _=>l.length - (intOf v).toNat)
 case atStart=>exact⟨0,by omega,rfl,by rw[List.drop_zero],rfl⟩
 case round=>
  obtain⟨i,hi,rfl,he,rfl⟩:=hrel;have HE:=Hd he;clear he;by_cases hB:i<l.length
  ·have t1:decide ((i:Int)<(l.length:Int))=true:=by simp;omega
   have hD:wrap64 ((i:Int)+1)=((i+1:Nat):Int):=Ba (by omega);have hI:=hE.o (by omega);subst hI;have hc:=hF.o i hB;have hd:=Zv hB s;generalize l[i]=x at hc hd;have HS:=Hd hd;have HM:=Hd (Bg hB);have hH:Z9 (i+1<=l.length):=Hd hB;by_cases hk:x=s
   ·have HK:Z9 (decide (x=s)=true):=Hd (decide_eq_true hk);have e13:(x.toList == s.toList)=true:=(by rw[eqT];exact decide_eq_true hk);clear hi hd hk;go_wp2_with fail;go_ret
    exact⟨by rw[HE.o,HS.o,HK.o];rfl,rfl⟩
   ·have HK:Z9 (decide (x=s)=false):=Hd (decide_eq_false hk);have e13:(x.toList == s.toList)=false:=(by rw[eqT];exact decide_eq_false hk);clear hi hd hk;go_wp2_with fail;refine⟨⟨i+1,hH.o,by first|rfl|rw[hD],by rw[HE.o,HS.o,HK.o];rfl,by first|rfl|trivial⟩,?_⟩;first|exact HM.o|(rw[hD];exact HM.o)
  ·have t1:decide ((i:Int)<(l.length:Int))=false:=by simp;omega
   have hG:Z9 (Dc l s=false):=Hd (by rw[HE.o,List.drop_eq_nil_of_le (by omega)];rfl);clear hi;go_wp2_with fail;go_ret
   exact⟨by rw[hG.o];rfl,rfl⟩
structure Gq (w:World) (g c:Nat) (l:List Z8):Prop where
 le:l.length<=c
 mx:c<=maxLen
 blk:∃cur,w.heap[g]?=some (.cells cur 9 (0,0))/\cur.size=c
 reps:∀(i:Nat) (s:Z8),l[i]?=some s->w.cell? ⟨g,i,none⟩=some (.string s)
theorem Gq.lt {w:World}{g c:Nat}{l:List Z8}(h:Gq w g c l):g<w.heap.size:=by
 obtain⟨cur,h1,_⟩:=h.blk;exact (Array.getElem?_eq_some_iff.1 h1).1
theorem Gq.keep {w w':World}{g c:Nat}{l:List Z8}(h:Gq w g c l) (hk:w'.heap[g]?=w.heap[g]?):Gq w' g c l:=
 ⟨h.le,h.mx,by rw[hk];exact h.blk,fun i t hi=>(World.cell?_of_block (a:=⟨g,i,none⟩) hk).trans (h.reps i t hi)⟩
theorem Gq.later {w w':World}{g c:Nat}{l:List Z8}(h:Gq w g c l) (hb:Below w.heap.size w w'):Gq w' g c l:=h.keep (hb.block g h.lt)
theorem Gq.set {w:World}{g c:Nat}{a b:List Z8}{x s:Z8}(h:Gq w g c (a++x :: b)):Gq (w.setCell ⟨g,a.length,none⟩ (.string s)) g c (a++s :: b):=by
 obtain⟨cur,h1,h2⟩:=h.blk;refine⟨by have:=h.le;simpa using this,h.mx,⟨_,Go.heap_setCell_same w g _ _ _ _ h1,by rw[Array.size_setIfInBounds];exact h2⟩,fun i t hi=>?_⟩;by_cases he:i=a.length
 ·subst he;rw[List.getElem?_append_right (Nat.le_refl _),Nat.sub_self]at hi;have ht:s=t:=by injection hi
  rw[<-ht];exact World.cell?_setCell_same _ _ _ (h.reps a.length x (by rw[List.getElem?_append_right (Nat.le_refl _),Nat.sub_self];rfl))
 ·have hA:(a++x :: b)[i]?=some t:=by
   rcases Nat.lt_or_ge i a.length with h3|h3
   ·rw[List.getElem?_append_left h3]at hi ⊢;exact hi
   ·obtain⟨m,hm⟩:∃m,i - a.length=m+1:=⟨i - a.length - 1,by omega⟩;rw[List.getElem?_append_right h3,hm]at hi ⊢;exact hi
  rw[World.cell?_setCell_other _ _ _ _ (fun e=>he (by injection e with _ e2;exact e2.symm))];exact h.reps i t hA
def Du (B:Nat) (w:World) (v:Value) (l:List Z8):Prop:=w.ownsRow B 9 1 v l.length (l.map .string)
theorem Du.of {B:Nat}{w:World}{v:Value}{l:List Z8}(h:Du B w v l):(v=.slice none 0 0/\l=[])\/∃g c,v=.slice (some ⟨g,0,none⟩) l.length c/\B<=g/\Gq w g c l:=by
 obtain⟨h1,h2⟩:=h;rcases h2 with ⟨hv,hn⟩|⟨g,cap,cur,hv,hg,hh,hc,hm,hs,ht⟩
 ·exact .inl ⟨hv,List.eq_nil_of_length_eq_zero hn⟩
 ·refine .inr ⟨g,cap,hv,hg,hc,hm,⟨cur,hh,by omega⟩,fun i s hi=>?_⟩;rw[cell_of_row _ _ _ _ _ _ hh];have h6:(l.map Value.string)[i]?=some (.string s):=by rw[List.getElem?_map,hi];rfl
  rw[<-ht,List.getElem?_take]at h6
  split at h6
  ·simpa using h6
  ·cases h6
theorem Gq.o {B:Nat}{w:World}{g c:Nat}{l:List Z8}(h:Gq w g c l) (hg:B<=g):Du B w (.slice (some ⟨g,0,none⟩) l.length c) l:=by
 obtain⟨cur,h1,h2⟩:=h.blk;have hA:=h.le;refine⟨by simp,.inr ⟨g,c,cur,rfl,hg,h1,hA,h.mx,by omega,?_⟩⟩;apply List.ext_getElem?;intro i;rw[List.getElem?_take,List.getElem?_map,Nat.mul_one]
 split
 ·rename_i hi;have h5:=h.reps i l[i] (List.getElem?_eq_getElem hi);rw[cell_of_row _ _ _ _ _ _ h1]at h5;rw[List.getElem?_eq_getElem hi];simpa using h5
 ·rename_i hi;rw[List.getElem?_eq_none (by omega)];rfl
theorem Gq.list {w:World}{g c:Nat}{l:List Z8}(h:Gq w g c l) (hl:l.length<=1000000000000000):Cg w l (some ⟨g,0,none⟩):=⟨g,0,fun _=>rfl,hl,fun i hi=>by rw[Nat.zero_add];exact h.reps i _ (List.getElem?_eq_getElem hi)⟩
theorem Du.later {B:Nat}{w w':World}{v:Value}{l:List Z8}(h:Du B w v l) (hb:Below w.heap.size w w'):Du B w' v l:=by
 rcases h.of with ⟨rfl,rfl⟩|⟨g,c,rfl,hg,hs⟩
 ·exact World.ownsRow_nil _ _ _ _
 ·exact (hs.later hb).o hg
