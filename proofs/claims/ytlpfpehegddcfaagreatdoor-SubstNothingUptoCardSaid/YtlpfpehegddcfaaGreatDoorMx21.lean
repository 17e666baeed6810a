import Derived.Test.YtlpfpehegddcfaaGreatDoorMx20
namespace Go.Proofs.YtlpfpehegddcfaaGreatDoor
set_option maxRecDepth 100000
set_option maxHeartbeats 64000000
open Go.RowKit
theorem Li {B:Nat}{w:World}{v:Value}{l:List Z8}{s:Z8}{gg:Nat}{o:Oper}{a:Act}{Kc:Act->World->Prop}{Q:Exit->Act->World->Prop}(sl x:Operand)
  (ho:o.op=.call { callee:=.builtin .append,args:=#[sl,x],argTypes:=#[46,46] }) (hs:a.eval sl=v) (hx:a.eval x=.slice (some ⟨gg,0,none⟩) 1 1)
  (hO:Du B w v l) (hc:w.cell? ⟨gg,0,none⟩=some (.string s)) (hB:B<=w.heap.size) (hG:l.length+1<=1099511627776)
  (h:∀v' w',Du B w' v' (l++[s])->w.grownBy w' v.ownBlock->(v'.ownBlock=v.ownBlock\/v'.ownBlock=some w.heap.size)->Kc (a.put o.dst v') w') :
  Oper.wp Tryz.prog o a w Kc Q:=by
 obtain⟨i0,hA,hD,hE,hF⟩:=Eg Hs;refine Cb sl x 46 ho B 9 i0 (.string ⟨#[]⟩) 1 16 Tryz.underlying46 hA hD hE hF rfl (by decide) v l.length _ hs hO ⟨gg,0,none⟩ 1 1 [.string s] hx rfl (fun j u hj=>?_) (fun u hu=>?_) (by unfold maxLen;omega) (by omega) hB ?_
 ·have hC:j=0:=by have:=(List.getElem?_eq_some_iff.1 hj).1;simp at this;exact this
  subst hC;obtain rfl:Value.string s=u:=by simpa using hj
  have e:((⟨gg,0,none⟩:Addr).add 0)=⟨gg,0,none⟩:=rfl;rw[e];exact hc
 ·simp only[List.mem_cons,List.not_mem_nil,or_false]at hu;rw[hu];rfl
 ·intro v' w' g1 g2 _ g4;refine h v' w' ?_ g2 g4;unfold Du;rw[List.length_append,List.map_append];exact g1
def NmB (w:World) (g:Nat) (v:Value):Prop:=w.heap[g]?=some (.cells #[v] 46 (0,0))
def Ub (w0 w:World) (g:Nat) (l:List Z8):Prop:=∃v,NmB w g v/\Du w0.heap.size w v l/\Below w0.heap.size w0 w/\w0.heap.size<=g
def P6 (t:Ty):Prop:=∀(K:Nat->Prop) (w0 w:World) (b o g:Nat) (l:List Z8),De K w0 t b o->Aj t=true->Ub w0 w g l->l.length+(Bi t).length<=1099511627776 ->
 Calls Tryz.prog 132 #[.pointer (some ⟨b,o,none⟩),.pointer (some ⟨g,0,none⟩)] w fun e w'=>e=.returned (.tuple #[])/\Ub w0 w' g (l++Bi t)
theorem Xk {B:Nat}{w:World}{v:Value}{l:List Z8}(h:Du B w v l) {b:Nat}(hb:v.ownBlock=some b):∃c,w.heap[b]?=some (.cells c 9 (0,0)):=by
 rcases h.2 with ⟨rfl,_⟩|⟨g,cap,cur,rfl,_,hg,_⟩
 ·cases hb
 ·injection hb with hb
  exact⟨cur,by rw[<-hb];exact hg⟩
theorem Mx {B:Nat}{w:World}{g:Nat}{v v':Value}{l:List Z8}(h:NmB w g v) (ho:Du B w v' l):v'.ownBlock≠some g:=fun e=>by
 obtain⟨c,hc⟩:=Xk ho e;unfold NmB at h;rw[hc]at h;injection h with h
 injection h with _ h
 exact absurd h (by decide)
theorem η {B:Nat}{w:World}{v:Value}{l:List Z8}(h:Du B w v l):∀k,v.ownBlock=some k->B<=k:=fun k hk=>by
 rcases h.2 with ⟨rfl,_⟩|⟨g,cap,cur,rfl,hg,_⟩
 ·cases hk
 ·injection hk with hk
  obtain rfl:g=k:=hk;exact hg
theorem R1 {w0 w:World}{g:Nat}{v v5:Value}{l:List Z8}(h:w.heap[g]?=some (.cells #[v] 46 (0,0))) (ho:Du w0.heap.size w v5 l) (hb:Below w0.heap.size w0 w) (hg:w0.heap.size<=g):Ub w0 (w.setCell ⟨g,0,none⟩ v5) g l:=by
 have hB:v5.ownBlock≠some g:=Mx h ho;refine⟨v5,Go.heap_setCell_same w g 0 _ _ v5 h,⟨ho.1,?_⟩,hb.setCell hg _,hg⟩;rcases ho.2 with h3|⟨b,cap,cur,hv,hA,hh,r⟩
 ·exact .inl h3
 ·refine .inr ⟨b,cap,cur,hv,hA,?_,r⟩;rw[Below.heap_setCell _ _ _ _ (fun e=>hB (by rw[hv,e];rfl))];exact hh
theorem Fh {w0 w:World}{g:Nat}{l:List Z8}(h:Ub w0 w g l):Below w0.heap.size w0 w:=by
 obtain⟨_,_,_,hb,_⟩:=h;exact hb
theorem Jag (k:Int) (h:(Ak k).f=true):k=14:=by
 unfold Ak at h;by_cases hA:k=14
 ·exact hA
 ·rw[if_neg (show ¬ (k=14) from hA)]at h;exact absurd h (by split <;> (try split) <;> (try split) <;> (try split) <;> (try split) <;> (try split) <;> (try split) <;> (try split) <;> (try split) <;> (try split) <;> (try split) <;> simp)
theorem It {t:Ty}(h:Aj t=true):∀f∈t.fs,Aj f.2.2=true:=fun f hf=>by
 by_cases hk:t.k=14
 ·exact (Qu (Qw h hk) hf).2.2.2
 ·obtain⟨k,s,n,ps,fs,vs⟩:=t;have hA:=Dg h;have hs:(Ak k).f=false:=by
   cases e:(Ak k).f with
   | false=>rfl
   | true=>exact absurd (Jag k e) hk
  unfold Ao at hA;rw[hs]at hA;simp only[Bool.and_eq_true,Bool.not_eq_true',Bool.or_eq_false_iff,Bool.not_false,Bool.true_and,decide_eq_false_iff_not]at hA;have h0:fs=[]:=List.eq_nil_of_length_eq_zero (by have:=hA.1.1.2;omega);rw[show (Ty.mk k s n ps fs vs).fs=fs from rfl,h0]at hf
  cases hf
theorem Jbo {t:Z8}{n:Int}{ps:List Ty}{fs:Bx}{vs:Bt}(h:Aj (.mk 22 t n ps fs vs)=true):ps=[]/\fs=[]:=by
 have hf:=Dg h;have hs:Ak 22=⟨true,false,false,false,0,0,true⟩:=rfl;rw[hs]at hf;unfold Ao at hf;simp only[Bool.and_eq_true,Bool.not_eq_true',Bool.or_eq_false_iff,Bool.or_eq_true,decide_eq_true_eq,beq_iff_eq,Bool.not_false,Bool.true_and,decide_eq_false_iff_not]at hf;obtain⟨⟨⟨⟨h1,h2⟩,h3⟩,h4⟩,h5,h6⟩:=hf;exact⟨List.eq_nil_of_length_eq_zero (by omega),List.eq_nil_of_length_eq_zero (by omega)⟩
theorem Ww (k:Int) (s:Z8) (n:Int) (ps:List Ty) (fs:Bx) (vs:Bt) (hp:∀p∈ps,P6 p) (hf:∀f∈fs,P6 f.2.2):P6 (.mk k s n ps fs vs):=by
 intro K w0 w b o g l hT hE hN hG;obtain⟨A,c,A2,c2,A3,c3,⟨x0,x1,x2,x3,x4,x5⟩,-,kG,kF,-⟩:=hT.six;have hlp:=kG.short;have hlf:=kF.shortF;have kB:Z9 (∀wx,Below w0.heap.size w0 wx->wx.cell? ⟨b,o+3,none⟩=some (.slice A ps.length c)/\wx.cell? ⟨b,o+4,none⟩=some (.slice A2 fs.length c2)):=Hd fun wx hx=>⟨Aa hx x3,Aa hx x4⟩;by_cases hk:k=22
 ·subst hk;obtain⟨rfl,rfl⟩:=Jbo hE;have kD:Bi (.mk 22 s n [] [] vs)=[s]:=by rw[Gf,if_pos rfl]
  rw[kD]at hG ⊢;obtain⟨v,hv,hO,hb,hg⟩:=hN;have y0:=Aa hb x0;have hL:=Hd x1;have hI:Z9 (w.heap[g]?=some (.cells #[v] 46 (0,0))):=Hd hv;have HO:=Hd hO;have hP:=Hd hb;have kM:=Hd hg;have hZ:Z9 (l.length+1<=1099511627776):=Hd hG;simp only[List.length_nil]at x3 x4 kB;clear hT hE hG kD hv hO hb hg x0 x1 x2 x3 x4 x5 kG kF hp hf hlp hlf;go_enter Tryz.func132,Tryz.ntmps132;go_upto_region 1 with fail
  clear y0;refine wp_region_held_drew (S:=(fun w'=>w'.cell? ⟨b,o+1,none⟩=some (.string s)/\(w'.cell? ⟨g,0,none⟩).isSome=true/\w'.frozen? ⟨g,0,none⟩=false)) (by kernel_rfl) (⟨Aa hP.o.drew hL.o,by rw[show w.drew.cell? ⟨g,0,none⟩=w.cell? ⟨g,0,none⟩ from rfl,Ch hI.o 0];rfl,Lib.frozen_of_heap (w:=w.drew) hI.o 0⟩) (fun hB=>?_);refine Ab.s [0,1,2,4,5,6,7] ?_
  iterate 7 (refine Ab.k (so rfl) hB ?_;try simp only[Act.put,Bd,Be,Bf])
  refine Ab.d ?_;refine wpAnyH_ready (rs:=[3,8]) (by kernel_rfl) (by simp) ?_;refine AllReadyH.cons (sd (some 14) rfl) (fun Kx hK=>?_) (AllReadyH.cons (sd (some 19) rfl) (fun Kx hK=>?_) AllReadyH.nil)
  ·go_simp;have lz:w.cell? ⟨g,0,none⟩=some v:=Ch hI.o 0;go_simp;clear lz;refine hK.out _ _ (⟨Aa hP.o.drew hL.o,by rw[Ch (w:=w.drew) hI.o 0];rfl,Lib.frozen_of_heap (w:=w.drew) hI.o 0⟩) (fun hB=>?_);clear hK Kx;try simp only[Act.put,Bd,Be,Bf]
   refine wpAnyH_ready (rs:=[8]) (by kernel_rfl) (by simp) ?_;refine AllReadyH.cons (sd (some 19) rfl) (fun Kx hK=>?_) AllReadyH.nil;go_simp;generalize hW:(w.alloc (.cells #[.string s] 9)).drew=w1;have hb:Below w.heap.size w w1:=by rw[<-hW];exact ((Below.refl _ _).alloc (Nat.le_refl _) _).drew
   have rs:w1.heap[w.heap.size]?=some (.cells #[.string s] 9 (0,0)):=by rw[<-hW];exact heap_alloc_new w _
   have hY:=Hd hb;have HX:=Hd rs;have hH:=Hd (Bj hb (Array.getElem?_eq_some_iff.1 hI.o).1 hI.o);have hQ:=Hd (hP.o.trans (hb.mono hP.o.size));clear hW hb rs;refine hK.out _ _ (⟨Aa hQ.o hL.o,by rw[Ch hH.o 0];rfl,Lib.frozen_of_heap hH.o 0⟩) (fun hB=>?_);clear hK Kx;try simp only[Act.put,Bd,Be,Bf]
   refine wpAnyH_ready (rs:=[9]) (by kernel_rfl) (by simp) ?_;refine AllReadyH.cons (sd (some 20) rfl) (fun Kx hK=>?_) AllReadyH.nil;rw[if_pos (by rfl)];refine Li (B:=w0.heap.size) (l:=l) (s:=s) _ _ rfl rfl rfl (HO.o.later hY.o) (Ch HX.o 0) (Nat.le_trans hP.o.size hY.o.size) hZ.o ?_;intro v5 w5 hS hR _;obtain⟨A5,c5,kE,-⟩:=Gx hS;rw[show (l++[s]).length=l.length+1 by simp]at kE;subst kE;have kI:=Hd hS;have hF:Z9 (w5.heap[g]?=some (.cells #[v] 46 (0,0))):=Hd ((hR.block g (Array.getElem?_eq_some_iff.1 hH.o).1 (fun e=>Mx hI.o HO.o e.symm)).trans hH.o);have hX:=Hd (hQ.o.grown hR hQ.o.size (η HO.o));clear hS hR;refine hK.out _ _ (⟨Aa hX.o hL.o,by rw[Ch hF.o 0];rfl,Lib.frozen_of_heap hF.o 0⟩) (fun hB=>?_);clear hK Kx;try simp only[Act.put,Bd,Be,Bf]
   refine Ab.s [10] ?_;refine Ab.k (so rfl) hB ?_;try simp only[Act.put,Bd,Be,Bf]
   refine Ab.d ?_;refine wpAnyH_ready (rs:=[11]) (by kernel_rfl) (by simp) ?_;refine AllReadyH.cons (sd none rfl) (fun Kx hK=>?_) AllReadyH.nil;go_simp;have hJ:Z9 (Ub w0 (w5.setCell ⟨g,0,none⟩ (.slice A5 (l.length+1) c5)) g (l++[s])):=Hd (R1 hF.o kI.o hX.o kM.o);have kA:Z9 ((w5.setCell ⟨g,0,none⟩ (.slice A5 (l.length+1) c5)).heap[g]?=some (.cells #[.slice A5 (l.length+1) c5] 46 (0,0))):=Hd (Go.heap_setCell_same w5 g 0 _ _ _ hF.o);have lz:w5.cell? ⟨g,0,none⟩=some v:=Ch hF.o 0;have lf:=Lib.frozen_of_heap hF.o 0;go_simp;clear lz lf;refine hK.out _ _ (⟨Aa (Fh hJ.o) hL.o,by rw[Ch kA.o 0];rfl,Lib.frozen_of_heap kA.o 0⟩) (fun hB=>?_);clear hK Kx;try simp only[Act.put,Bd,Be,Bf]
   refine wpAnyH_done (by kernel_rfl) ?_ _;clear hB;obtain⟨z3,z4⟩:=kB.o _ (Fh hJ.o);generalize kK:w5.setCell ⟨g,0,none⟩ (.slice A5 (l.length+1) c5)=w9 at hJ z3 z4;clear kK;go_wp2_with fail
   go_loopw [27] (fun v wr=>v=.int .i64 0/\wr=w9) (fun v _=>0)
   case atStart=>exact⟨rfl,rfl⟩
   case round=>
    obtain⟨rfl,rfl⟩:=hrel;go_wp2_with fail
    go_loopw [48] (fun v wx=>v=.int .i64 0/\wx=wr) (fun v _=>0)
    case atStart=>exact⟨rfl,rfl⟩
    case round=>
     obtain⟨rfl,rfl⟩:=hrel;go_wp2_with fail;exact bodyPost_end (v:=.tuple #[]) (by simp[results,Tryz.results132,go_sem]) rfl ⟨rfl,hJ.o⟩
  ·go_simp;generalize hW:(w.alloc (.cells #[.string s] 9)).drew=w1;have hb:Below w.heap.size w w1:=by rw[<-hW];exact ((Below.refl _ _).alloc (Nat.le_refl _) _).drew
   have rs:w1.heap[w.heap.size]?=some (.cells #[.string s] 9 (0,0)):=by rw[<-hW];exact heap_alloc_new w _
   have hY:=Hd hb;have HX:=Hd rs;have hH:=Hd (Bj hb (Array.getElem?_eq_some_iff.1 hI.o).1 hI.o);have hQ:=Hd (hP.o.trans (hb.mono hP.o.size));clear hW hb rs;refine hK.out _ _ (⟨Aa hQ.o hL.o,by rw[Ch hH.o 0];rfl,Lib.frozen_of_heap hH.o 0⟩) (fun hB=>?_);clear hK Kx;try simp only[Act.put,Bd,Be,Bf]
   refine wpAnyH_ready (rs:=[3]) (by kernel_rfl) (by simp) ?_;refine AllReadyH.cons (sd (some 14) rfl) (fun Kx hK=>?_) AllReadyH.nil;go_simp;have lz:w1.cell? ⟨g,0,none⟩=some v:=Ch hH.o 0;go_simp;clear lz;refine hK.out _ _ (⟨Aa hQ.o hL.o,by rw[Ch hH.o 0];rfl,Lib.frozen_of_heap hH.o 0⟩) (fun hB=>?_);clear hK Kx;try simp only[Act.put,Bd,Be,Bf]
   refine wpAnyH_ready (rs:=[9]) (by kernel_rfl) (by simp) ?_;refine AllReadyH.cons (sd (some 20) rfl) (fun Kx hK=>?_) AllReadyH.nil;rw[if_pos (by rfl)];refine Li (B:=w0.heap.size) (l:=l) (s:=s) _ _ rfl rfl rfl (HO.o.later hY.o) (Ch HX.o 0) (Nat.le_trans hP.o.size hY.o.size) hZ.o ?_;intro v5 w5 hS hR _;obtain⟨A5,c5,kE,-⟩:=Gx hS;rw[show (l++[s]).length=l.length+1 by simp]at kE;subst kE;have kI:=Hd hS;have hF:Z9 (w5.heap[g]?=some (.cells #[v] 46 (0,0))):=Hd ((hR.block g (Array.getElem?_eq_some_iff.1 hH.o).1 (fun e=>Mx hI.o HO.o e.symm)).trans hH.o);have hX:=Hd (hQ.o.grown hR hQ.o.size (η HO.o));clear hS hR;refine hK.out _ _ (⟨Aa hX.o hL.o,by rw[Ch hF.o 0];rfl,Lib.frozen_of_heap hF.o 0⟩) (fun hB=>?_);clear hK Kx;try simp only[Act.put,Bd,Be,Bf]
   refine Ab.s [10] ?_;refine Ab.k (so rfl) hB ?_;try simp only[Act.put,Bd,Be,Bf]
   refine Ab.d ?_;refine wpAnyH_ready (rs:=[11]) (by kernel_rfl) (by simp) ?_;refine AllReadyH.cons (sd none rfl) (fun Kx hK=>?_) AllReadyH.nil;go_simp;have hJ:Z9 (Ub w0 (w5.setCell ⟨g,0,none⟩ (.slice A5 (l.length+1) c5)) g (l++[s])):=Hd (R1 hF.o kI.o hX.o kM.o);have kA:Z9 ((w5.setCell ⟨g,0,none⟩ (.slice A5 (l.length+1) c5)).heap[g]?=some (.cells #[.slice A5 (l.length+1) c5] 46 (0,0))):=Hd (Go.heap_setCell_same w5 g 0 _ _ _ hF.o);have lz:w5.cell? ⟨g,0,none⟩=some v:=Ch hF.o 0;have lf:=Lib.frozen_of_heap hF.o 0;go_simp;clear lz lf;refine hK.out _ _ (⟨Aa (Fh hJ.o) hL.o,by rw[Ch kA.o 0];rfl,Lib.frozen_of_heap kA.o 0⟩) (fun hB=>?_);clear hK Kx;try simp only[Act.put,Bd,Be,Bf]
   refine wpAnyH_done (by kernel_rfl) ?_ _;clear hB;obtain⟨z3,z4⟩:=kB.o _ (Fh hJ.o);generalize kK:w5.setCell ⟨g,0,none⟩ (.slice A5 (l.length+1) c5)=w9 at hJ z3 z4;clear kK;go_wp2_with fail
   go_loopw [27] (fun v wr=>v=.int .i64 0/\wr=w9) (fun v _=>0)
   case atStart=>exact⟨rfl,rfl⟩
   case round=>
    obtain⟨rfl,rfl⟩:=hrel;go_wp2_with fail
    go_loopw [48] (fun v wx=>v=.int .i64 0/\wx=wr) (fun v _=>0)
    case atStart=>exact⟨rfl,rfl⟩
    case round=>
     obtain⟨rfl,rfl⟩:=hrel;go_wp2_with fail;exact bodyPost_end (v:=.tuple #[]) (by simp[results,Tryz.results132,go_sem]) rfl ⟨rfl,hJ.o⟩
 ·have te:(k == 22)=false:=by simpa using hk
  have kD:Bi (.mk k s n ps fs vs)=Cq k 0 ps++Dd fs:=by rw[Gf,if_neg hk]
  rw[kD]at hG ⊢;have PT:Z9 (∀wx,Below w0.heap.size w0 wx->∀i:Nat,Calls Tryz.prog 97 #[.pointer (some ⟨b,o,none⟩),.int .i64 i] wx fun e w'=>e=.returned (.bool (k == 21 && i == 1))/\w'=wx):=Hd fun wx hx i=>Le (Aa hx x0) i;have HP:Z9 (∀i (hi:i<ps.length),∃pb po,A=some ⟨pb,po,none⟩/\∀wx l',Ub w0 wx g l'->l'.length+(Bi ps[i]).length<=1099511627776->Calls Tryz.prog 132 #[.pointer (some ⟨pb,po+i*6,none⟩),.pointer (some ⟨g,0,none⟩)] wx fun e w'=>e=.returned (.tuple #[])/\Ub w0 w' g (l'++Bi ps[i])):=Hd fun i hi=>by
   obtain⟨pb,po,hA,_,kJ⟩:=kG.at (by omega);exact⟨pb,po,hA,fun wx l' hn hl=>hp _ (List.getElem_mem hi) K w0 wx pb (po+i*6) g l' (kJ i hi) (D9 hE _ (List.getElem_mem hi)) hn hl⟩
  have HF:Z9 (∀i (hi:i<fs.length),∃pb po,A2=some ⟨pb,po,none⟩/\∀wx l',Ub w0 wx g l'->l'.length+(Bi fs[i].2.2).length<=1099511627776->Calls Tryz.prog 132 #[.pointer (some ⟨pb,po+i*8+2,none⟩),.pointer (some ⟨g,0,none⟩)] wx fun e w'=>e=.returned (.tuple #[])/\Ub w0 w' g (l'++Bi fs[i].2.2)):=Hd fun i hi=>by
   obtain⟨pb,po,hA,_,kJ⟩:=kF.at (by omega);exact⟨pb,po,hA,fun wx l' hn hl=>hf _ (List.getElem_mem hi) K w0 wx pb (po+i*8+2) g l' (kJ i hi).2.2.2 (It hE _ (List.getElem_mem hi)) hn hl⟩
  have y0:=Aa (Fh hN) x0;have y3:=Aa (Fh hN) x3;have kP:=Hd hN;have hZ:=Hd hG;clear hT hE hG kD hN x0 x1 x2 x3 x4 x5 kG kF hp hf hk;go_enter Tryz.func132,Tryz.ntmps132;go_wp2_with fail;clear y0 y3
  go_loopw [27] (fun v wr=>∃(i:Nat) (N:List Z8),i<=ps.length/\v=.int .i64 i/\N++Cq k i (ps.drop i)=Cq k 0 ps/\Ub w0 wr g (l++N)) (fun v _=>ps.length - (intOf v).toNat)
  case atStart=>exact⟨0,[],by omega,rfl,by rw[List.drop_zero];rfl,by rw[List.append_nil];exact kP.o⟩
  case round=>
   obtain⟨i,N,hi,rfl,he,hn⟩:=hrel;have HE:=Hd he;have HN:=Hd hn;obtain⟨z3,z4⟩:=kB.o _ (Fh hn);have PI:=Hd (PT.o _ (Fh hn) i);clear he hn;by_cases hM:i<ps.length
   ·have t1:decide ((i:Int)<(ps.length:Int))=true:=(by simp;omega);have hU:wrap64 ((i:Int)+1)=((i+1:Nat):Int):=Ba (by omega);have i1:(0:Int)<=(i:Int):=(by omega);have i2:(i:Int)<(ps.length:Int):=(by omega);have HM:=Hd (Bg hM);have hV:Z9 (i+1<=ps.length):=Hd hM;obtain⟨pb,po,hA,hD⟩:=HP.o i hM;subst hA;have hC:=Lc (k:=k) hM;have HC:Z9 ((k == 21 && i == 1)=false->Calls Tryz.prog 132 #[.pointer (some ⟨pb,po+i*6,none⟩),.pointer (some ⟨g,0,none⟩)] _ fun e w'=>e=.returned (.tuple #[])/\Ub w0 w' g ((l++N)++Bi ps[i])):=Hd fun hq=>hD _ _ HN.o (by
     have h1:=hZ.o;rw[<-HE.o,hC,hq,if_neg (by decide)]at h1;simp only[List.length_append]at h1 ⊢;omega)
    have HS:=Hd hC;generalize hq:(k == 21 && i == 1)=q at PI HS HC;clear hD hC hq hi;go_wp2_with fail;refine PI.o.mono ?_;rintro e w2 ⟨rfl,hw⟩;obtain rfl:=hw.symm
    cases q with
    | true=>
     go_wp2_with fail;refine⟨⟨i+1,N,hV.o,by first|rfl|rw[hU],by rw[<-HE.o,HS.o];simp,HN.o⟩,?_⟩;first|exact HM.o|(rw[hU];exact HM.o)
    | false=>
     go_wp2_with fail;refine (HC.o trivial).mono ?_;rintro e w3 ⟨rfl,kC⟩;have kH:=Hd kC;clear kC;go_wp2_with fail;refine⟨⟨i+1,N++Bi (ps[i]'hV.o),hV.o,by first|rfl|rw[hU],by rw[<-HE.o,HS.o];simp,by rw[<-List.append_assoc];exact kH.o⟩,?_⟩;first|exact HM.o|(rw[hU];exact HM.o)
   ·have t1:decide ((i:Int)<(ps.length:Int))=false:=(by simp;omega);have kL:Z9 (N=Cq k 0 ps):=Hd (by rw[<-HE.o,List.drop_eq_nil_of_le (by omega),Cq,List.append_nil]);clear hi PI;go_wp2_with fail;clear z3 z4;have kO:=Hd HN.o
    go_loopw [48] (fun v wx=>∃(i:Nat) (M:List Z8),i<=fs.length/\v=.int .i64 i/\M++Dd (fs.drop i)=Dd fs/\Ub w0 wx g ((l++N)++M)) (fun v _=>fs.length - (intOf v).toNat)
    case atStart=>exact⟨0,[],by omega,rfl,by rw[List.drop_zero];rfl,by rw[List.append_nil];exact kO.o⟩
    case round=>
     obtain⟨i,M,hi,rfl,he,hn⟩:=hrel;have HE:=Hd he;have HN:=Hd hn;obtain⟨z3,z4⟩:=kB.o _ (Fh hn);clear he hn;by_cases hM:i<fs.length
     ·have t1:decide ((i:Int)<(fs.length:Int))=true:=(by simp;omega);have hU:wrap64 ((i:Int)+1)=((i+1:Nat):Int):=Ba (by omega);have i1:(0:Int)<=(i:Int):=(by omega);have i2:(i:Int)<(fs.length:Int):=(by omega);have HM:=Hd (Bg hM);have hV:Z9 (i+1<=fs.length):=Hd hM;obtain⟨pb,po,hA,hD⟩:=HF.o i hM;subst hA;have hC:=Lb hM;have HC:=Hd (hD _ _ HN.o (by
       have h1:=hZ.o;rw[<-kL.o,<-HE.o,hC]at h1;simp only[List.length_append]at h1 ⊢;omega))
      have HS:=Hd hC;clear hD hC hi;go_wp2_with fail;refine HC.o.mono ?_;rintro e w3 ⟨rfl,kC⟩;have kH:=Hd kC;clear kC;go_wp2_with fail;refine⟨⟨i+1,M++Bi (fs[i]'hV.o).2.2,hV.o,by first|rfl|rw[hU],by rw[<-HE.o,HS.o,List.append_assoc],by rw[<-List.append_assoc];exact kH.o⟩,?_⟩;first|exact HM.o|(rw[hU];exact HM.o)
     ·have t1:decide ((i:Int)<(fs.length:Int))=false:=(by simp;omega);have kN:Z9 (M=Dd fs):=Hd (by rw[<-HE.o,List.drop_eq_nil_of_le (by omega)];simp[Dd]);clear hi;go_wp2_with fail;exact bodyPost_end (v:=.tuple #[]) (by simp[results,Tryz.results132,go_sem]) rfl ⟨rfl,by rw[<-kL.o,<-kN.o,<-List.append_assoc];exact HN.o⟩
theorem Zz (t:Ty):P6 t:=Ty.ind (C:=P6) (fun k t n ps fs vs hp hf _=>Ww k t n ps fs vs hp hf) t
theorem Vv (l:List Ty) (t:Ty):Au (l++[t])=Au l+Am t:=by rw[G1,Cl,G2];omega
theorem N3:∀(l:Bx) (f:Z8×Int×Ty),Bm (l++[f])=Bm l+Am f.2.2
 | [],f=>by simp[Bm]
 | g :: l,f=>by
  have e1:Bm (g :: (l++[f]))=Am g.2.2+Bm (l++[f]):=by simp[Bm]
  have e2:Bm (g :: l)=Am g.2.2+Bm l:=by simp[Bm]
  rw[List.cons_append,e1,e2,N3 l f];omega
theorem Vu {l:List Ty}{i:Nat}(h:i<l.length):Au (l.take (i+1))=Au (l.take i)+Am l[i]:=by
 rw[List.take_succ_eq_append_getElem h,Vv]
theorem N1 {l:Bx}{i:Nat}(h:i<l.length):Bm (l.take (i+1))=Bm (l.take i)+Am l[i].2.2:=by
 rw[List.take_succ_eq_append_getElem h,N3]
theorem I6 (l:List Ty) (i:Nat):Au (l.take i)<=Au l:=by
 have h:Au (l.take i++l.drop i)=Au l:=by rw[List.take_append_drop i l]
 rw[G1]at h;omega
theorem Bk.but {O K K':Nat->Prop}{a b:World}{l:List Ty}{A:Option Addr}{c:Nat}(h:Bk K a l A c) (hb:Ad O a b) (hk:∀x,K x->¬ O x/\K' x):Bk K' b l A c:=by
 obtain⟨g,o,h1,h2⟩:=h;refine⟨g,o,h1.weak fun x hx=>(hk x hx).2,fun i hi=>?_⟩;have hg:=(h1.some (by omega)).2;exact (h2 i hi).keep (fun x hx=>(hk x hx).2) (fun x _ _ hx hc=>hb.cell (hk x hx).1 hc) fun _ _ hc=>hb.cell (hk g hg).1 hc
theorem Mf (l:Bx) (i:Nat):Bm (l.take i)<=Bm l:=by
 have h:Bm (l.take i++l.drop i)=Bm l:=by rw[List.take_append_drop i l]
 have e:∀a c:Bx,Bm (a++c)=Bm a+Bm c:=fun a c=>by
  induction a with
  | nil=>simp[Bm]
  | cons x a ih=>
   have e1:Bm (x :: (a++c))=Am x.2.2+Bm (a++c):=by simp[Bm]
   have e2:Bm (x :: a)=Am x.2.2+Bm a:=by simp[Bm]
   rw[List.cons_append,e1,e2,ih];omega
 rw[e]at h;omega
theorem Jdp:(Tryz.prog.info? 59).map (fun i=>(i.zero,i.size,i.bytes))=some (some (.agg #[.string ⟨#[]⟩,.int .i64 0,.int .i64 0,.string ⟨#[]⟩,.int .i64 0,.slice none 0 0,.slice none 0 0,.slice none 0 0]),8,128):=by kernel_rfl
theorem Ad.set {O:Nat->Prop}{a w:World}(h:Ad O a w) {p:Addr}(hp:O p.block\/a.heap.size<=p.block) (u:Value):Ad O a (w.setCell p u):=
 ⟨h.os,h.tape,h.output,by have:=h.size;simpa [World.setCell] using this,fun k hk hn=>(Below.heap_setCell w p u k fun e=>hp.elim (fun h'=>hn (by rw[e];exact h')) fun h'=>by omega).trans (h.block k hk hn)⟩
theorem Ad.then {O:Nat->Prop}{a w w':World}(h:Ad O a w) (hb:Below w.heap.size w w'):Ad O a w':=
 h.trans (Ad.of_below (O:=fun _=>False) hb) fun _ hx=>hx.elim
theorem Ad.mono {O O':Nat->Prop}{a w:World}(h:Ad O a w) (ho:∀x,O x->O' x):Ad O' a w:=
 ⟨h.os,h.tape,h.output,h.size,fun k hk hn=>h.block k hk fun e=>hn (ho k e)⟩
theorem Ad.up {O:Nat->Prop}{a w:World}(h:Ad O a w) {c:Nat}{o:Obj}(hc:¬ O c) (hx:a.heap[c]?=some o):w.heap[c]?=some o:=
 (h.block c (Array.getElem?_eq_some_iff.1 hx).1 hc).trans hx
theorem Cw {W:World}{b:Nat}{T:TypeId}{cs:Array Value}(h:W.heap[b]?=some (.cells cs T (0,0))) (i:Nat) (y:Value):(W.setCell ⟨b,i,none⟩ y).heap[b]?=some (.cells (cs.setIfInBounds i y) T (0,0)):=by
 simp only[World.setCell,Array.getElem?_modify,if_pos,h,Option.map_some];rfl
theorem Dt.but {O K K':Nat->Prop}{a b:World}{l:Bx}{A:Option Addr}{c:Nat}(h:Dt K a l A c) (hb:Ad O a b) (hk:∀x,K x->¬ O x/\K' x):Dt K' b l A c:=by
 obtain⟨g,o,h1,h2⟩:=h;refine⟨g,o,h1.weak fun x hx=>(hk x hx).2,fun i hi=>?_⟩;have hg:=(h1.some (by omega)).2;obtain⟨h3,h4,h5,h6⟩:=h2 i hi;exact⟨hb.cell (hk g hg).1 h3,hb.cell (hk g hg).1 h4,h5,h6.keep (fun x hx=>(hk x hx).2) (fun x _ _ hx hc=>hb.cell (hk x hx).1 hc) fun _ _ hc=>hb.cell (hk g hg).1 hc⟩
theorem Da.but {O K K':Nat->Prop}{a b:World}{l:Bt}{A:Option Addr}{c:Nat}(h:Da K a l A c) (hb:Ad O a b) (hk:∀x,K x->¬ O x/\K' x):Da K' b l A c:=by
 obtain⟨g,o,h1,h2⟩:=h;refine⟨g,o,h1.weak fun x hx=>(hk x hx).2,fun i hi=>?_⟩;have hg:=(h1.some (by omega)).2;obtain⟨B,d,h3,h4,h5,h6⟩:=h2 i hi;exact⟨B,d,hb.cell (hk g hg).1 h3,hb.cell (hk g hg).1 h4,h5,h6.but hb hk⟩
theorem Ad.put1 {b:Nat}{a w:World}(h:Ad (fun x=>x=b) a w) (i:Nat) (u:Value):Ad (fun x=>x=b) a (w.setCell ⟨b,i,none⟩ u):=
 Ad.set (O:=fun x=>x=b) (p:=⟨b,i,none⟩) h (.inl rfl) u
theorem Cr (w:World) (g:Nat) (y0 y1 y2 y3 y4 y5:Value):Ad (fun x=>x=g) w ((((((w.setCell ⟨g,0,none⟩ y0).setCell ⟨g,1,none⟩ y1).setCell ⟨g,2,none⟩ y2).setCell ⟨g,3,none⟩ y3).setCell ⟨g,4,none⟩ y4).setCell ⟨g,5,none⟩ y5):=
 ((((((Ad.refl _ _).put1 0 y0).put1 1 y1).put1 2 y2).put1 3 y3).put1 4 y4).put1 5 y5
theorem Ad.from {O:Nat->Prop}{a w w':World}(hb:Below a.heap.size a w) (h:Ad O w w'):Ad O a w':=
 (Ad.of_below (O:=O) hb).trans h fun _ hx=>.inl hx
theorem Yi (w:World) (a:Option Addr) (l c:Nat):(binOp .eql 22 (.slice a l c) (.slice none 0 0)).run Tryz.prog w=.ok (.bool a.isNone) w:=by
 simp[binOp,run_equal_slice_nil w 22 26 a l c Lz]
theorem Md (ad:Addr) (n c:Nat) (news:List Value) (w:World) (hn:n<=1000000) (hl:news.length=n*6) (h1:∀u∈news,u.oneCell'=true) (h:∀j u,news[j]?=some u->w.cell? (ad.add j)=some u) :
  Calls Tryz.prog 66 #[.slice (some ad) n c] w fun e w'=>∃g c',e=.returned (.slice (some ⟨g,0,none⟩) n c')/\w.heap.size<=g/\g<w'.heap.size/\n<=c'/\w'.ownsRow w.heap.size 26 6 (.slice (some ⟨g,0,none⟩) n c') n news/\Below w.heap.size w w':=by
 obtain⟨i0,hG,hI,hJ,hK⟩:=Eg Ht;have HS:=Hd h;have HN:=Hd hn;have HL:=Hd hl;have HO:=Hd h1;have hq:=Yi w (some ad) n c;simp only[Option.isNone_some]at hq;clear h hn hl h1;go_enter Tryz.func66,Tryz.ntmps66;have HE:=Hd (World.ownsRow_lit (base:=w.heap.size) (e:=26) (size:=6) w #[] 0 (Nat.le_refl _) (by decide) rfl);go_wp2_with (at_builtin;go_loud (refine wpList_append_own _ rfl _ _ 22 rfl w.heap.size 26 i0 (.agg #[.int .i64 0,.string ⟨#[]⟩,.int .i64 0,.slice none 0 0,.slice none 0 0,.slice none 0 0]) 6 104 Lz hG hI hJ hK rfl (by decide) _ _ _ rfl HE.o ad n c news rfl ?a0 ?a1 ?a2 ?a3 ?a4 ?a5 ?_))
 case a0=>exact HL.o
 case a1=>exact fun j u hj=>Aa ((Below.refl _ _).alloc (Nat.le_refl _) _) (HS.o j u hj)
 case a2=>exact HO.o
 case a3=>exact Nat.le_trans HN.o (by decide:1000000<=maxLen)
 case a4=>have:=HN.o;omega
 intro v' w' hB hA hD;obtain⟨g,cap,hv,hE,hF,hH,hC⟩:∃g cap,v'=.slice (some ⟨g,0,none⟩) n cap/\w.heap.size<=g/\g<w'.heap.size/\n<=cap/\w'.ownsRow w.heap.size 26 6 (.slice (some ⟨g,0,none⟩) n cap) n news:=by
  have h2:=hB.2;rcases h2 with ⟨h3,h4⟩|⟨g,cap,cur,h3,h4,h5,h6,_⟩
  ·exact absurd h3 hD
  ·subst h3;exact⟨g,cap,rfl,h4,(Array.getElem?_eq_some_iff.1 h5).1,h6,hB⟩
 subst hv;have hb:Below w.heap.size w w':=((Below.refl w.heap.size w).alloc (Nat.le_refl _) (.cells #[] 26)).grown hA (by simp) (fun k hk=>by simp[Value.ownBlock]at hk;omega);have HB:=Hd hb;have HR:=Hd hC;clear hB hA hD hb hC
 go_wp2
 go_ret
 exact⟨g,cap,rfl,hE,hF,hH,HR.o,HB.o⟩
theorem Jm (w:World) :
  Calls Tryz.prog 66 #[.slice none 0 0] w fun e w'=>e=.returned (.slice none 0 0)/\w=w':=by
 have hq:=Yi w none 0 0;simp only[Option.isNone_none]at hq;go_enter Tryz.func66,Tryz.ntmps66;go_wp2_with fail;go_ret
 exact⟨rfl,rfl⟩
theorem Yh (w:World) (a:Option Addr) (l c:Nat):(binOp .eql 23 (.slice a l c) (.slice none 0 0)).run Tryz.prog w=.ok (.bool a.isNone) w:=by
 simp[binOp,run_equal_slice_nil w 23 59 a l c Tryz.underlying23]
theorem Qf (ad:Addr) (n c:Nat) (news:List Value) (w:World) (hn:n<=1000000) (hl:news.length=n*8) (h1:∀u∈news,u.oneCell'=true) (h:∀j u,news[j]?=some u->w.cell? (ad.add j)=some u) :
  Calls Tryz.prog 67 #[.slice (some ad) n c] w fun e w'=>∃g c',e=.returned (.slice (some ⟨g,0,none⟩) n c')/\w.heap.size<=g/\g<w'.heap.size/\n<=c'/\w'.ownsRow w.heap.size 59 8 (.slice (some ⟨g,0,none⟩) n c') n news/\Below w.heap.size w w':=by
 obtain⟨i0,hG,hI,hJ,hK⟩:=Eg Jdp;have HS:=Hd h;have HN:=Hd hn;have HL:=Hd hl;have HO:=Hd h1;have hq:=Yh w (some ad) n c;simp only[Option.isNone_some]at hq;clear h hn hl h1;go_enter Tryz.func67,Tryz.ntmps67;have HE:=Hd (World.ownsRow_lit (base:=w.heap.size) (e:=59) (size:=8) w #[] 0 (Nat.le_refl _) (by decide) rfl);go_wp2_with (at_builtin;go_loud (refine wpList_append_own _ rfl _ _ 23 rfl w.heap.size 59 i0 (.agg #[.string ⟨#[]⟩,.int .i64 0,.int .i64 0,.string ⟨#[]⟩,.int .i64 0,.slice none 0 0,.slice none 0 0,.slice none 0 0]) 8 128 Tryz.underlying23 hG hI hJ hK rfl (by decide) _ _ _ rfl HE.o ad n c news rfl ?a0 ?a1 ?a2 ?a3 ?a4 ?a5 ?_))
 case a0=>exact HL.o
 case a1=>exact fun j u hj=>Aa ((Below.refl _ _).alloc (Nat.le_refl _) _) (HS.o j u hj)
 case a2=>exact HO.o
 case a3=>exact Nat.le_trans HN.o (by decide:1000000<=maxLen)
 case a4=>have:=HN.o;omega
 intro v' w' hB hA hD;obtain⟨g,cap,hv,hE,hF,hH,hC⟩:∃g cap,v'=.slice (some ⟨g,0,none⟩) n cap/\w.heap.size<=g/\g<w'.heap.size/\n<=cap/\w'.ownsRow w.heap.size 59 8 (.slice (some ⟨g,0,none⟩) n cap) n news:=by
  have h2:=hB.2;rcases h2 with ⟨h3,h4⟩|⟨g,cap,cur,h3,h4,h5,h6,_⟩
  ·exact absurd h3 hD
  ·subst h3;exact⟨g,cap,rfl,h4,(Array.getElem?_eq_some_iff.1 h5).1,h6,hB⟩
 subst hv;have hb:Below w.heap.size w w':=((Below.refl w.heap.size w).alloc (Nat.le_refl _) (.cells #[] 59)).grown hA (by simp) (fun k hk=>by simp[Value.ownBlock]at hk;omega);have HB:=Hd hb;have HR:=Hd hC;clear hB hA hD hb hC
 go_wp2
 go_ret
 exact⟨g,cap,rfl,hE,hF,hH,HR.o,HB.o⟩
theorem Pg (w:World) :
  Calls Tryz.prog 67 #[.slice none 0 0] w fun e w'=>e=.returned (.slice none 0 0)/\w=w':=by
 have hq:=Yh w none 0 0;simp only[Option.isNone_none]at hq;go_enter Tryz.func67,Tryz.ntmps67;go_wp2_with fail;go_ret
 exact⟨rfl,rfl⟩
theorem Cg.but {O:Nat->Prop}{w w':World}{l:List Z8}{A:Option Addr}(h:Cg w l A) (hb:Ad O w w') (hA:∀b o,A=some ⟨b,o,none⟩->¬ O b):Cg w' l A:=by
 obtain⟨b,o,h1,h2,h3⟩:=h;exact⟨b,o,h1,h2,fun i hi=>hb.cell (hA b o (h1 (by omega))) (h3 i hi)⟩
def cI (l:List Z8) (x:Z8):Nat:=l.countP fun y=>decide (y=x)
theorem Jba (l:List Z8) (y x:Z8):cI (l++[y]) x=cI l x+(if y=x then 1 else 0):=by
 unfold cI;rw[List.countP_append,List.countP_cons,List.countP_nil];by_cases h:y=x <;> simp[h]
theorem Ja8 (l:List Z8) (y x:Z8):cI (y :: l) x=cI l x+(if y=x then 1 else 0):=by
 unfold cI;rw[List.countP_cons];by_cases h:y=x <;> simp[h]
theorem Jd7 (l:List Z8) (x:Z8):decide (cI l x=0) = !Dc l x:=by
 unfold cI Dc
 induction l with
 | nil=>rfl
 | cons a l ih=>
  rw[List.countP_cons,List.any_cons];by_cases h:a=x
  ·simp[h]
  ·simp only[h,decide_false,Bool.false_or,Bool.false_eq_true,if_false,Nat.add_zero];exact ih
theorem Uj (l:List Z8) (x:Z8):cI l x<=l.length:=List.countP_le_length
structure Fp (U:List Z8) (w:World) (g mb mf:Nat) (c:Z8->Nat) (S:Z8->Bool):Prop where
 box:w.heap[g]?=some (.cells #[.map (some mb),.map (some mf)] 188 (0,0))
 bnd:∃F n,Cy Jdb w mb n F/\n<=(U.filter fun x=>(F x).isSome).length/\∀x,(F x).getD 0=(c x:Int)
 fre:∃F n,Cy Hf w mf n F/\n<=(U.filter fun x=>(F x).isSome).length/\∀x,(F x).isSome=S x
 ne:mb≠mf/\g≠mb/\g≠mf
theorem Fp.same {U:List Z8}{w:World}{g mb mf:Nat}{c c':Z8->Nat}{S S':Z8->Bool}(h:Fp U w g mb mf c S) (hc:∀x,c x=c' x) (hS:∀x,S x=S' x):Fp U w g mb mf c' S':=by
 rw[<-funext hc,<-funext hS];exact h
theorem Fp.later {U:List Z8}{w w':World}{g mb mf:Nat}{c:Z8->Nat}{S:Z8->Bool}(h:Fp U w g mb mf c S) (hb:Below w.heap.size w w'):Fp U w' g mb mf c S:=by
 obtain⟨h1,⟨F,n,h2,h3⟩,⟨F',n',h4,h5⟩,h6⟩:=h;exact⟨(hb.block g (Array.getElem?_eq_some_iff.1 h1).1).trans h1,⟨F,n,h2.later hb,h3⟩,⟨F',n',h4.later hb,h5⟩,h6⟩
theorem Fp.lt {U:List Z8}{w:World}{g mb mf:Nat}{c:Z8->Nat}{S:Z8->Bool}(h:Fp U w g mb mf c S):g<w.heap.size/\mb<w.heap.size/\mf<w.heap.size:=by
 obtain⟨h1,⟨F,n,h2,h3⟩,⟨F',n',h4,h5⟩,h6⟩:=h;exact⟨(Array.getElem?_eq_some_iff.1 h1).1,h2.lt,h4.lt⟩
theorem Fp.cell {U:List Z8}{w:World}{g mb mf:Nat}{c:Z8->Nat}{S:Z8->Bool}(h:Fp U w g mb mf c S):w.cell? ⟨g,0,none⟩=some (.map (some mb))/\w.cell? ⟨g,1,none⟩=some (.map (some mf)):=
 ⟨by rw[Ch h.box];rfl,by rw[Ch h.box];rfl⟩
theorem Fp.look {U:List Z8}{w:World}{g mb mf:Nat}{c:Z8->Nat}{S:Z8->Bool}(h:Fp U w g mb mf c S) (s:Z8) (hs:s.size<=maxLen):(Instr.lookup 185 (.map (some mb)) (.string s) false).run Tryz.prog w=.ok (.int .i64 (c s:Int)) w:=by
 obtain⟨F,n,h2,h3,h4⟩:=h.bnd;have h5:(Instr.lookup 185 (.map (some mb)) (.string s) false).run Tryz.prog w=.ok (.int .i64 ((F s).getD 0)) w:=h2.look1 s hs;rw[h4]at h5;exact h5
theorem H9 {α:Type}{p q:α->Bool}(hA:∀x,p x=true->q x=true):∀(l:List α),(l.filter p).length<=(l.filter q).length
 | []=>Nat.le_refl _
 | a :: l=>by
  have ih:=H9 hA l;rw[List.filter_cons,List.filter_cons];by_cases h:p a=true
  ·rw[if_pos h,if_pos (hA a h)];simpa using ih
  ·rw[if_neg h];by_cases h2:q a=true
   ·rw[if_pos h2,List.length_cons];omega
   ·rw[if_neg h2];exact ih
theorem Mj {α:Type}{p q:α->Bool}(hA:∀x,p x=true->q x=true):∀(l:List α) (a:α),a∈l->p a=false->q a=true->(l.filter p).length+1<=(l.filter q).length
 | b :: l,a,h,h1,h2=>by
  rw[List.filter_cons,List.filter_cons];rcases List.mem_cons.1 h with rfl|h
  ·rw[if_neg (by simp[h1]),if_pos h2,List.length_cons];have:=H9 hA l;omega
  ·have ih:=Mj hA l a h h1 h2;by_cases h3:p b=true
   ·rw[if_pos h3,if_pos (hA b h3),List.length_cons,List.length_cons];omega
   ·rw[if_neg h3];by_cases h4:q b=true
    ·rw[if_pos h4,List.length_cons];omega
    ·rw[if_neg h4];exact ih
theorem Cy.putU {α:Type}{M:MK Tryz.prog α}{U:List Z8}{W:World}{b n:Nat}{F:Z8->Option α}(h:Cy M W b n F) (hn:n<=(U.filter fun x=>(F x).isSome).length) (hU:U.length<maxLen) (s:Z8) (hC:s∈U) (hs:s.size<=maxLen) (a:α) :
  ∃w' n',(Instr.mapUpdate M.T (.map (some b)) (.string s) (M.val a)).run Tryz.prog W=.ok () w'/\Cy M w' b n' (Hx F s a)/\n'<=(U.filter fun x=>(Hx F s a x).isSome).length/\W.grownBy w' (some b):=by
 have hB:=List.length_filter_le (fun x=>(F x).isSome) U;have hA:∀x,(F x).isSome=true->(Hx F s a x).isSome=true:=fun x hx=>by
  unfold Hx;by_cases e:s=x
  ·rw[if_pos e];rfl
  ·rw[if_neg e];exact hx
 by_cases hp:(F s).isSome=true
 ·obtain⟨w',h1,h2,h3⟩:=h.putH (by omega) s hs a hp;exact⟨w',n,h1,h2,Nat.le_trans hn (H9 hA U),h3⟩
 ·obtain⟨w',h1,h2,h3⟩:=h.putL (by omega) s hs a;refine⟨w',n+1,h1,h2,Nat.le_trans (Nat.add_le_add_right hn 1) (Mj hA U s hC (by simpa using hp) ?_),h3⟩;unfold Hx;rw[if_pos rfl];rfl
theorem Iu {w w':World}{b:Nat}(h:w.grownBy w' (some b)):Ad (fun x=>x=b) w w':=
 (Ad.refl (fun x=>x=b) w).grown h fun k hk=>.inl (by injection hk with hk;exact hk.symm)
theorem Fp.put {U:List Z8}{w:World}{g mb mf:Nat}{c:Z8->Nat}{S:Z8->Bool}(h:Fp U w g mb mf c S) (hU:U.length<maxLen) (s:Z8) (hA:s∈U) (hs:s.size<=maxLen) (v:Nat) :
  ∃w',(Instr.mapUpdate 185 (.map (some mb)) (.string s) (.int .i64 (v:Int))).run Tryz.prog w=.ok () w'/\Fp U w' g mb mf (fun x=>if s=x then v else c x) S/\Ad (fun x=>x=mb) w w':=by
 obtain⟨h1,⟨F,n,h2,h3,h4⟩,⟨F',n',h5,h6,h7⟩,h8⟩:=h;obtain⟨w',n2,hr,hm,hn,hg⟩:=h2.putU h3 hU s hA hs (v:Int);have hb:=Iu hg;refine⟨w',hr,⟨hb.up h8.2.1 h1,⟨_,n2,hm,hn,fun x=>?_⟩,⟨F',n',h5.keep (hb.block mf h5.lt (fun e=>h8.1 e.symm)),h6,h7⟩,h8⟩,hb⟩;unfold Hx;by_cases e:s=x
 ·rw[if_pos e,if_pos e];rfl
 ·rw[if_neg e,if_neg e];exact h4 x
theorem Fp.add {U:List Z8}{w:World}{g mb mf:Nat}{c:Z8->Nat}{S:Z8->Bool}(h:Fp U w g mb mf c S) (hU:U.length<maxLen) (s:Z8) (hA:s∈U) (hs:s.size<=maxLen) :
  ∃w',(Instr.mapUpdate 186 (.map (some mf)) (.string s) (.agg #[])).run Tryz.prog w=.ok () w'/\Fp U w' g mb mf c (fun x=>decide (s=x) || S x)/\Ad (fun x=>x=mf) w w':=by
 obtain⟨h1,⟨F,n,h2,h3,h4⟩,⟨F',n',h5,h6,h7⟩,h8⟩:=h;obtain⟨w',n2,hr,hm,hn,hg⟩:=h5.putU h6 hU s hA hs ();have hb:=Iu hg;refine⟨w',hr,⟨hb.up h8.2.2 h1,⟨F,n,h2.keep (hb.block mb h2.lt h8.1),h3,h4⟩,⟨_,n2,hm,hn,fun x=>?_⟩,h8⟩,hb⟩;unfold Hx;by_cases e:s=x
 ·rw[if_pos e];simp[e]
 ·rw[if_neg e,h7];simp[e]
def I2 (U:List Z8) (g mb mf:Nat) (w:World) (c:Z8->Nat) (S:Z8->Bool) (f:Z8->Bool):Ending->World->Prop:=fun e w'=>e=.returned (.tuple #[])/\Fp U w' g mb mf c (fun x=>S x || (decide (c x=0) && f x))/\Ad (fun x=>x=mb\/x=mf) w w'
def L6 (t:Ty):Prop:=∀(K:Nat->Prop) (U:List Z8) (g mb mf:Nat) (w:World) (bp op:Nat) (c:Z8->Nat) (S:Z8->Bool),De K w t bp op->bp≠mb/\bp≠mf->(∀x,K x->x<w.heap.size/\x≠mb/\x≠mf)->Fp U w g mb mf c S->(∀x∈Ed t,x∈U)->U.length<maxLen->(∀x,c x+Am t*1000000000000002<=9000000000000000000)->Aj t=true->Dk t=true->Calls Tryz.prog 153 #[.pointer (some ⟨g,0,none⟩),.pointer (some ⟨bp,op,none⟩)] w (I2 U g mb mf w c S fun x=>Bp x t)
theorem L0 {α:Type}{f g:α->Nat}:∀ {l:List α},(∀a∈l,f a<=g a)->(l.map f).sum<=(l.map g).sum
 | [],_=>Nat.le_refl _
 | a :: l,h=>by
  rw[List.map_cons,List.map_cons,List.sum_cons,List.sum_cons];exact Nat.add_le_add (h a List.mem_cons_self) (L0 fun b hb=>h b (List.mem_cons_of_mem _ hb))
theorem J2 {f:Ty->Ty}{l:List Ty}(h:∀p∈l,Am (f p)<=Am p):Au (l.map f)<=Au l:=by
 unfold Au;rw[List.map_map];exact L0 h
theorem N7 {x:Z8}{u:Ty}{cut:Nat->Bool}:∀ {l:List Ty}{j:Nat},(∀p∈l,Am (Bh x u p)<=Am p)->Au (Fk x u cut j l)<=Au l
 | [],_,_=>Nat.le_refl _
 | p :: l,j,h=>by
  rw[Fk,Cl,Cl];refine Nat.add_le_add ?_ (N7 fun q hq=>h q (List.mem_cons_of_mem _ hq));by_cases hc:cut j=true
  ·rw[if_pos hc];exact Nat.le_refl _
  ·rw[if_neg hc];exact h p List.mem_cons_self
theorem Jbk {x:Z8}{u:Ty}(hu:Am u=1) (t:Ty):Am (Bh x u t)<=Am t:=by
 refine Ty.ind (C:=fun t=>Am (Bh x u t)<=Am t) (fun k t n ps fs vs hp hf hv=>?_) t;rw[Eu,Bu k t n ps fs vs];by_cases h1:(k == 16 && decide (t=x))=true
 ·rw[if_pos h1,hu];omega
 ·rw[if_neg h1];by_cases h2:(k == 15)=true
  ·rw[if_pos h2];have h3:=Vz (ps.map (Bh x u));have h4:Au (ps.map (Bh x u))<=Au ps:=J2 hp;omega
  ·rw[if_neg h2,Bu];have h3:Au (Fk x u (fun i=>E9 vs x || Cz k t n ps i x) 0 ps)<=Au ps:=N7 hp;have h4:Bm (fs.map fun f=>(f.1,f.2.1,Bh x u f.2.2))<=Bm fs:=by
    unfold Bm;rw[List.map_map];exact L0 hf
   have h5:Bl (vs.map fun v=>(v.1,v.2.map fun b=>if E9 vs x=true then b else Bh x u b))<=Bl vs:=by
    unfold Bl;rw[List.map_map];refine L0 fun v hA=>J2 fun b hb=>?_;by_cases h6:E9 vs x=true
    ·rw[if_pos h6];exact Nat.le_refl _
    ·rw[if_neg h6];exact hv v hA b hb
   omega
theorem Rn {x:Z8}{t:Z8}{n:Int}{ps:List Ty}{fs:Bx}(h:Bp x (.mk 15 t n ps fs [])=false):∀p∈ps,Bp x p=false:=by
 rw[Dq,Bool.or_eq_false_iff]at h;have h2:=h.2;simp only[E9,List.any_nil,Bool.not_false,Bool.true_and,Bool.or_eq_false_iff]at h2;have h3:∀(l:List Ty) (j:Nat),Dn x (fun i=>Cz 15 t n ps i x) j l=false->∀p∈l,Bp x p=false:=by
  intro l
  induction l with
  | nil=>intro j _ p h;cases h
  | cons a l ih=>
   intro j h p hA;rw[Dn,Bool.or_eq_false_iff]at h;rcases List.mem_cons.1 hA with rfl|hA
   ·have h4:=h.1;simpa [Cz] using h4
   ·exact ih (j+1) h.2 p hA
 exact h3 ps 0 h2.2.1
theorem Ko {x:Z8}{u:Ty}{cut:Nat->Bool}(h:∀i,cut i=false):∀ {l:List Ty}{j:Nat},Fk x u cut j l=l.map (Bh x u)
 | [],_=>rfl
 | p :: l,j=>by rw[Fk,if_neg (by rw[h j];decide),Ko h,List.map_cons]
theorem G3 {x s:Z8}{k n:Int}{ps:List Ty}(hA:k≠20) (hB:k≠21) (i:Nat):Cz k s n ps i x=false:=by
 unfold Cz;rw[show (k == 20)=false from beq_eq_false_iff_ne.2 hA,show (k == 21)=false from beq_eq_false_iff_ne.2 hB];rfl
theorem O3 {x:Z8}{u:Ty}{k n:Int}{s:Z8}{ps:List Ty}(hA:k≠15) (hB:k≠20) (hC:k≠21) (hD:x=s->k≠16):Bh x u (.mk k s n ps [] [])=.mk k s n (ps.map (Bh x u)) [] []:=by
 have h1:¬ (k == 16 && decide (s=x))=true:=fun h=>by
  rw[Bool.and_eq_true,beq_iff_eq,decide_eq_true_eq]at h;exact hD h.2.symm h.1
 rw[Eu,if_neg h1,if_neg (by rw[show (k == 15)=false from beq_eq_false_iff_ne.2 hA];decide),Ko fun i=>by rw[G3 hB hC];rfl];rfl
theorem Rm {x:Z8}{k n:Int}{s:Z8}{ps:List Ty}(hB:k≠20) (hC:k≠21) (h:Bp x (.mk k s n ps [] [])=false):∀p∈ps,Bp x p=false:=by
 rw[Dq,Bool.or_eq_false_iff]at h;have h2:=h.2;simp only[E9,List.any_nil,Bool.not_false,Bool.true_and,Bool.or_eq_false_iff]at h2;have h3:∀(l:List Ty) (j:Nat),Dn x (fun i=>Cz k s n ps i x) j l=false->∀p∈l,Bp x p=false:=by
  intro l
  induction l with
  | nil=>intro j _ p h;cases h
  | cons a l ih=>
   intro j h p hA;rw[Dn,Bool.or_eq_false_iff]at h;rcases List.mem_cons.1 hA with rfl|hA
   ·have h4:=h.1;rw[G3 hB hC]at h4;simpa using h4
   ·exact ih (j+1) h.2 p hA
 exact h3 ps 0 h2.2.1
