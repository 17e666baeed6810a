import Derived.Test.YtlpfpehegddcfaaGreatDoorMw22
namespace Go.Proofs.YtlpfpehegddcfaaGreatDoor
set_option maxRecDepth 100000
set_option maxHeartbeats 64000000
open Go.RowKit
theorem Mw {B:Nat}{w:World}{v:Value}{l:List Z8}{s:Z8}{gg:Nat}{o:Oper}{a:Act}{Kc:Act->World->Prop}{Q:Exit->Act->World->Prop}(sl x:Operand)
  (ho:o.op=.call { callee:=.builtin .append,args:=#[sl,x],argTypes:=#[46,46] }) (hs:a.eval sl=v) (hx:a.eval x=.slice (some ⟨gg,0,none⟩) 1 1)
  (hO:D5 B w v l) (hc:w.cell? ⟨gg,0,none⟩=some (.string s)) (hB:B<=w.heap.size) (hG:l.length+1<=1099511627776)
  (h:∀v' w',D5 B w' v' (l++[s])->w.grownBy w' v.ownBlock->(v'.ownBlock=v.ownBlock\/v'.ownBlock=some w.heap.size)->Kc (a.put o.dst v') w') :
  Oper.wp Tryz.prog o a w Kc Q:=by
 obtain⟨i0,hA,hD,hE,hF⟩:=Ec Ig;refine B5 sl x 46 ho B 9 i0 (.string ⟨#[]⟩) 1 16 Tryz.underlying46 hA hD hE hF rfl (by decide) v l.length _ hs hO ⟨gg,0,none⟩ 1 1 [.string s] hx rfl (fun j u hj=>?_) (fun u hu=>?_) (by unfold maxLen;omega) (by omega) hB ?_
 ·have hC:j=0:=by have:=(List.getElem?_eq_some_iff.1 hj).1;simp at this;exact this
  subst hC;obtain rfl:Value.string s=u:=by simpa using hj
  have e:((⟨gg,0,none⟩:Addr).add 0)=⟨gg,0,none⟩:=rfl;rw[e];exact hc
 ·simp only[List.mem_cons,List.not_mem_nil,or_false]at hu;rw[hu];rfl
 ·intro v' w' g1 g2 _ g4;refine h v' w' ?_ g2 g4;unfold D5;rw[List.length_append,List.map_append];exact g1
def NmB (w:World) (g:Nat) (v:Value):Prop:=w.heap[g]?=some (.cells #[v] 46 (0,0))
def Vm (w0 w:World) (g:Nat) (l:List Z8):Prop:=∃v,NmB w g v/\D5 w0.heap.size w v l/\Below w0.heap.size w0 w/\w0.heap.size<=g
def Ri (t:Ty):Prop:=∀(K:Nat->Prop) (w0 w:World) (b o g:Nat) (l:List Z8),Dm K w0 t b o->Ai t=true->Vm w0 w g l->l.length+(Bi t).length<=1099511627776 ->
 Calls Tryz.prog 132 #[.pointer (some ⟨b,o,none⟩),.pointer (some ⟨g,0,none⟩)] w fun e w'=>e=.returned (.tuple #[])/\Vm w0 w' g (l++Bi t)
theorem Y9 {B:Nat}{w:World}{v:Value}{l:List Z8}(h:D5 B w v l) {b:Nat}(hb:v.ownBlock=some b):∃c,w.heap[b]?=some (.cells c 9 (0,0)):=by
 rcases h.2 with ⟨rfl,_⟩|⟨g,cap,cur,rfl,_,hg,_⟩
 ·cases hb
 ·injection hb with hb
  exact⟨cur,by rw[<-hb];exact hg⟩
theorem Oa {B:Nat}{w:World}{g:Nat}{v v':Value}{l:List Z8}(h:NmB w g v) (ho:D5 B w v' l):v'.ownBlock≠some g:=fun e=>by
 obtain⟨c,hc⟩:=Y9 ho e;unfold NmB at h;rw[hc]at h;injection h with h
 injection h with _ h
 exact absurd h (by decide)
theorem Jbx {B:Nat}{w:World}{v:Value}{l:List Z8}(h:D5 B w v l):∀k,v.ownBlock=some k->B<=k:=fun k hk=>by
 rcases h.2 with ⟨rfl,_⟩|⟨g,cap,cur,rfl,hg,_⟩
 ·cases hk
 ·injection hk with hk
  obtain rfl:g=k:=hk;exact hg
theorem S6 {w0 w:World}{g:Nat}{v v5:Value}{l:List Z8}(h:w.heap[g]?=some (.cells #[v] 46 (0,0))) (ho:D5 w0.heap.size w v5 l) (hb:Below w0.heap.size w0 w) (hg:w0.heap.size<=g):Vm w0 (w.setCell ⟨g,0,none⟩ v5) g l:=by
 have hB:v5.ownBlock≠some g:=Oa h ho;refine⟨v5,Go.heap_setCell_same w g 0 _ _ v5 h,⟨ho.1,?_⟩,hb.setCell hg _,hg⟩;rcases ho.2 with h3|⟨b,cap,cur,hv,hA,hh,r⟩
 ·exact .inl h3
 ·refine .inr ⟨b,cap,cur,hv,hA,?_,r⟩;rw[Below.heap_setCell _ _ _ _ (fun e=>hB (by rw[hv,e];rfl))];exact hh
theorem Fu {w0 w:World}{g:Nat}{l:List Z8}(h:Vm w0 w g l):Below w0.heap.size w0 w:=by
 obtain⟨_,_,_,hb,_⟩:=h;exact hb
theorem Jck (k:Int) (h:(Ak k).f=true):k=14:=by
 unfold Ak at h;by_cases hA:k=14
 ·exact hA
 ·rw[if_neg (show ¬ (k=14) from hA)]at h;exact absurd h (by split <;> (try split) <;> (try split) <;> (try split) <;> (try split) <;> (try split) <;> (try split) <;> (try split) <;> (try split) <;> (try split) <;> (try split) <;> simp)
theorem Je {t:Ty}(h:Ai t=true):∀f∈t.fs,Ai f.2.2=true:=fun f hf=>by
 by_cases hk:t.k=14
 ·exact (Mb (Mf h hk) hf).2.2.2
 ·obtain⟨k,s,n,ps,fs,vs⟩:=t;have hA:=Dx h;have hs:(Ak k).f=false:=by
   cases e:(Ak k).f with
   | false=>rfl
   | true=>exact absurd (Jck k e) hk
  unfold Ar at hA;rw[hs]at hA;simp only[Bool.and_eq_true,Bool.not_eq_true',Bool.or_eq_false_iff,Bool.not_false,Bool.true_and,decide_eq_false_iff_not]at hA;have h0:fs=[]:=List.eq_nil_of_length_eq_zero (by have:=hA.1.1.2;omega);rw[show (Ty.mk k s n ps fs vs).fs=fs from rfl,h0]at hf
  cases hf
theorem Jdp {t:Z8}{n:Int}{ps:List Ty}{fs:Bv}{vs:Bw}(h:Ai (.mk 22 t n ps fs vs)=true):ps=[]/\fs=[]:=by
 have hf:=Dx h;have hs:Ak 22=⟨true,false,false,false,0,0,true⟩:=rfl;rw[hs]at hf;unfold Ar at hf;simp only[Bool.and_eq_true,Bool.not_eq_true',Bool.or_eq_false_iff,Bool.or_eq_true,decide_eq_true_eq,beq_iff_eq,Bool.not_false,Bool.true_and,decide_eq_false_iff_not]at hf;obtain⟨⟨⟨⟨h1,h2⟩,h3⟩,h4⟩,h5,h6⟩:=hf;exact⟨List.eq_nil_of_length_eq_zero (by omega),List.eq_nil_of_length_eq_zero (by omega)⟩
theorem Yg (k:Int) (s:Z8) (n:Int) (ps:List Ty) (fs:Bv) (vs:Bw) (hp:∀p∈ps,Ri p) (hf:∀f∈fs,Ri f.2.2):Ri (.mk k s n ps fs vs):=by
 intro K w0 w b o g l hT hE hN hG;obtain⟨A,c,A2,c2,A3,c3,⟨x0,x1,x2,x3,x4,x5⟩,-,kE,kD,-⟩:=hT.six;have hlp:=kE.short;have hlf:=kD.shortF;have hZ:Z9 (∀wx,Below w0.heap.size w0 wx->wx.cell? ⟨b,o+3,none⟩=some (.slice A ps.length c)/\wx.cell? ⟨b,o+4,none⟩=some (.slice A2 fs.length c2)):=Hd fun wx hx=>⟨Aa hx x3,Aa hx x4⟩;by_cases hk:k=22
 ·subst hk;obtain⟨rfl,rfl⟩:=Jdp hE;have kB:Bi (.mk 22 s n [] [] vs)=[s]:=by rw[Gs,if_pos rfl]
  rw[kB]at hG ⊢;obtain⟨v,hv,hO,hb,hg⟩:=hN;have y0:=Aa hb x0;have HX1:=Hd x1;have hI:Z9 (w.heap[g]?=some (.cells #[v] 46 (0,0))):=Hd hv;have HO:=Hd hO;have hM:=Hd hb;have kK:=Hd hg;have hX:Z9 (l.length+1<=1099511627776):=Hd hG;simp only[List.length_nil]at x3 x4 hZ;clear hT hE hG kB hv hO hb hg x0 x1 x2 x3 x4 x5 kE kD hp hf hlp hlf;go_enter Tryz.func132,Tryz.ntmps132;go_upto_region 1 with fail
  clear y0;refine wp_region_held_drew (S:=(fun w'=>w'.cell? ⟨b,o+1,none⟩=some (.string s)/\(w'.cell? ⟨g,0,none⟩).isSome=true/\w'.frozen? ⟨g,0,none⟩=false)) (by kernel_rfl) (⟨Aa hM.o.drew HX1.o,by rw[show w.drew.cell? ⟨g,0,none⟩=w.cell? ⟨g,0,none⟩ from rfl,Ch hI.o 0];rfl,Lib.frozen_of_heap (w:=w.drew) hI.o 0⟩) (fun hB=>?_);refine Ab.s [0,1,2,4,5,6,7] ?_
  iterate 7 (refine Ab.k (so rfl) hB ?_;try simp only[Act.put,Az,Ba,Bb])
  refine Ab.d ?_;refine wpAnyH_ready (rs:=[3,8]) (by kernel_rfl) (by simp) ?_;refine AllReadyH.cons (sd (some 14) rfl) (fun Kx hK=>?_) (AllReadyH.cons (sd (some 19) rfl) (fun Kx hK=>?_) AllReadyH.nil)
  ·go_simp;have lz:w.cell? ⟨g,0,none⟩=some v:=Ch hI.o 0;go_simp;clear lz;refine hK.out _ _ (⟨Aa hM.o.drew HX1.o,by rw[Ch (w:=w.drew) hI.o 0];rfl,Lib.frozen_of_heap (w:=w.drew) hI.o 0⟩) (fun hB=>?_);clear hK Kx;try simp only[Act.put,Az,Ba,Bb]
   refine wpAnyH_ready (rs:=[8]) (by kernel_rfl) (by simp) ?_;refine AllReadyH.cons (sd (some 19) rfl) (fun Kx hK=>?_) AllReadyH.nil;go_simp;generalize hW:(w.alloc (.cells #[.string s] 9)).drew=w1;have hb:Below w.heap.size w w1:=by rw[<-hW];exact ((Below.refl _ _).alloc (Nat.le_refl _) _).drew
   have rs:w1.heap[w.heap.size]?=some (.cells #[.string s] 9 (0,0)):=by rw[<-hW];exact heap_alloc_new w _
   have hV:=Hd hb;have HX:=Hd rs;have hH:=Hd (Ay hb (Array.getElem?_eq_some_iff.1 hI.o).1 hI.o);have HB1:=Hd (hM.o.trans (hb.mono hM.o.size));clear hW hb rs;refine hK.out _ _ (⟨Aa HB1.o HX1.o,by rw[Ch hH.o 0];rfl,Lib.frozen_of_heap hH.o 0⟩) (fun hB=>?_);clear hK Kx;try simp only[Act.put,Az,Ba,Bb]
   refine wpAnyH_ready (rs:=[9]) (by kernel_rfl) (by simp) ?_;refine AllReadyH.cons (sd (some 20) rfl) (fun Kx hK=>?_) AllReadyH.nil;rw[if_pos (by rfl)];refine Mw (B:=w0.heap.size) (l:=l) (s:=s) _ _ rfl rfl rfl (HO.o.later hV.o) (Ch HX.o 0) (Nat.le_trans hM.o.size hV.o.size) hX.o ?_;intro v5 w5 hQ hP _;obtain⟨A5,c5,kC,-⟩:=Fh hQ;rw[show (l++[s]).length=l.length+1 by simp]at kC;subst kC;have kG:=Hd hQ;have hF:Z9 (w5.heap[g]?=some (.cells #[v] 46 (0,0))):=Hd ((hP.block g (Array.getElem?_eq_some_iff.1 hH.o).1 (fun e=>Oa hI.o HO.o e.symm)).trans hH.o);have hU:=Hd (HB1.o.grown hP HB1.o.size (Jbx HO.o));clear hQ hP;refine hK.out _ _ (⟨Aa hU.o HX1.o,by rw[Ch hF.o 0];rfl,Lib.frozen_of_heap hF.o 0⟩) (fun hB=>?_);clear hK Kx;try simp only[Act.put,Az,Ba,Bb]
   refine Ab.s [10] ?_;refine Ab.k (so rfl) hB ?_;try simp only[Act.put,Az,Ba,Bb]
   refine Ab.d ?_;refine wpAnyH_ready (rs:=[11]) (by kernel_rfl) (by simp) ?_;refine AllReadyH.cons (sd none rfl) (fun Kx hK=>?_) AllReadyH.nil;go_simp;have hJ:Z9 (Vm w0 (w5.setCell ⟨g,0,none⟩ (.slice A5 (l.length+1) c5)) g (l++[s])):=Hd (S6 hF.o kG.o hU.o kK.o);have hY:Z9 ((w5.setCell ⟨g,0,none⟩ (.slice A5 (l.length+1) c5)).heap[g]?=some (.cells #[.slice A5 (l.length+1) c5] 46 (0,0))):=Hd (Go.heap_setCell_same w5 g 0 _ _ _ hF.o);have lz:w5.cell? ⟨g,0,none⟩=some v:=Ch hF.o 0;have lf:=Lib.frozen_of_heap hF.o 0;go_simp;clear lz lf;refine hK.out _ _ (⟨Aa (Fu hJ.o) HX1.o,by rw[Ch hY.o 0];rfl,Lib.frozen_of_heap hY.o 0⟩) (fun hB=>?_);clear hK Kx;try simp only[Act.put,Az,Ba,Bb]
   refine wpAnyH_done (by kernel_rfl) ?_ _;clear hB;obtain⟨z3,z4⟩:=hZ.o _ (Fu hJ.o);generalize kI:w5.setCell ⟨g,0,none⟩ (.slice A5 (l.length+1) c5)=w9 at hJ z3 z4;clear kI;go_wp2_with fail
   go_loopw [27] (fun v wr=>v=.int .i64 0/\wr=w9) (fun v _=>0)
   case atStart=>exact⟨rfl,rfl⟩
   case round=>
    obtain⟨rfl,rfl⟩:=hrel;go_wp2_with fail
    go_loopw [48] (fun v wx=>v=.int .i64 0/\wx=wr) (fun v _=>0)
    case atStart=>exact⟨rfl,rfl⟩
    case round=>
     obtain⟨rfl,rfl⟩:=hrel;go_wp2_with fail;exact bodyPost_end (v:=.tuple #[]) (by simp[results,Tryz.results132,go_sem]) rfl ⟨rfl,hJ.o⟩
  ·go_simp;generalize hW:(w.alloc (.cells #[.string s] 9)).drew=w1;have hb:Below w.heap.size w w1:=by rw[<-hW];exact ((Below.refl _ _).alloc (Nat.le_refl _) _).drew
   have rs:w1.heap[w.heap.size]?=some (.cells #[.string s] 9 (0,0)):=by rw[<-hW];exact heap_alloc_new w _
   have hV:=Hd hb;have HX:=Hd rs;have hH:=Hd (Ay hb (Array.getElem?_eq_some_iff.1 hI.o).1 hI.o);have HB1:=Hd (hM.o.trans (hb.mono hM.o.size));clear hW hb rs;refine hK.out _ _ (⟨Aa HB1.o HX1.o,by rw[Ch hH.o 0];rfl,Lib.frozen_of_heap hH.o 0⟩) (fun hB=>?_);clear hK Kx;try simp only[Act.put,Az,Ba,Bb]
   refine wpAnyH_ready (rs:=[3]) (by kernel_rfl) (by simp) ?_;refine AllReadyH.cons (sd (some 14) rfl) (fun Kx hK=>?_) AllReadyH.nil;go_simp;have lz:w1.cell? ⟨g,0,none⟩=some v:=Ch hH.o 0;go_simp;clear lz;refine hK.out _ _ (⟨Aa HB1.o HX1.o,by rw[Ch hH.o 0];rfl,Lib.frozen_of_heap hH.o 0⟩) (fun hB=>?_);clear hK Kx;try simp only[Act.put,Az,Ba,Bb]
   refine wpAnyH_ready (rs:=[9]) (by kernel_rfl) (by simp) ?_;refine AllReadyH.cons (sd (some 20) rfl) (fun Kx hK=>?_) AllReadyH.nil;rw[if_pos (by rfl)];refine Mw (B:=w0.heap.size) (l:=l) (s:=s) _ _ rfl rfl rfl (HO.o.later hV.o) (Ch HX.o 0) (Nat.le_trans hM.o.size hV.o.size) hX.o ?_;intro v5 w5 hQ hP _;obtain⟨A5,c5,kC,-⟩:=Fh hQ;rw[show (l++[s]).length=l.length+1 by simp]at kC;subst kC;have kG:=Hd hQ;have hF:Z9 (w5.heap[g]?=some (.cells #[v] 46 (0,0))):=Hd ((hP.block g (Array.getElem?_eq_some_iff.1 hH.o).1 (fun e=>Oa hI.o HO.o e.symm)).trans hH.o);have hU:=Hd (HB1.o.grown hP HB1.o.size (Jbx HO.o));clear hQ hP;refine hK.out _ _ (⟨Aa hU.o HX1.o,by rw[Ch hF.o 0];rfl,Lib.frozen_of_heap hF.o 0⟩) (fun hB=>?_);clear hK Kx;try simp only[Act.put,Az,Ba,Bb]
   refine Ab.s [10] ?_;refine Ab.k (so rfl) hB ?_;try simp only[Act.put,Az,Ba,Bb]
   refine Ab.d ?_;refine wpAnyH_ready (rs:=[11]) (by kernel_rfl) (by simp) ?_;refine AllReadyH.cons (sd none rfl) (fun Kx hK=>?_) AllReadyH.nil;go_simp;have hJ:Z9 (Vm w0 (w5.setCell ⟨g,0,none⟩ (.slice A5 (l.length+1) c5)) g (l++[s])):=Hd (S6 hF.o kG.o hU.o kK.o);have hY:Z9 ((w5.setCell ⟨g,0,none⟩ (.slice A5 (l.length+1) c5)).heap[g]?=some (.cells #[.slice A5 (l.length+1) c5] 46 (0,0))):=Hd (Go.heap_setCell_same w5 g 0 _ _ _ hF.o);have lz:w5.cell? ⟨g,0,none⟩=some v:=Ch hF.o 0;have lf:=Lib.frozen_of_heap hF.o 0;go_simp;clear lz lf;refine hK.out _ _ (⟨Aa (Fu hJ.o) HX1.o,by rw[Ch hY.o 0];rfl,Lib.frozen_of_heap hY.o 0⟩) (fun hB=>?_);clear hK Kx;try simp only[Act.put,Az,Ba,Bb]
   refine wpAnyH_done (by kernel_rfl) ?_ _;clear hB;obtain⟨z3,z4⟩:=hZ.o _ (Fu hJ.o);generalize kI:w5.setCell ⟨g,0,none⟩ (.slice A5 (l.length+1) c5)=w9 at hJ z3 z4;clear kI;go_wp2_with fail
   go_loopw [27] (fun v wr=>v=.int .i64 0/\wr=w9) (fun v _=>0)
   case atStart=>exact⟨rfl,rfl⟩
   case round=>
    obtain⟨rfl,rfl⟩:=hrel;go_wp2_with fail
    go_loopw [48] (fun v wx=>v=.int .i64 0/\wx=wr) (fun v _=>0)
    case atStart=>exact⟨rfl,rfl⟩
    case round=>
     obtain⟨rfl,rfl⟩:=hrel;go_wp2_with fail;exact bodyPost_end (v:=.tuple #[]) (by simp[results,Tryz.results132,go_sem]) rfl ⟨rfl,hJ.o⟩
 ·have te:(k == 22)=false:=by simpa using hk
  have kB:Bi (.mk k s n ps fs vs)=Cu k 0 ps++Dk fs:=by rw[Gs,if_neg hk]
  rw[kB]at hG ⊢;have PT:Z9 (∀wx,Below w0.heap.size w0 wx->∀i:Nat,Calls Tryz.prog 97 #[.pointer (some ⟨b,o,none⟩),.int .i64 i] wx fun e w'=>e=.returned (.bool (k == 21 && i == 1))/\w'=wx):=Hd fun wx hx i=>Mq (Aa hx x0) i;have HP:Z9 (∀i (hi:i<ps.length),∃pb po,A=some ⟨pb,po,none⟩/\∀wx l',Vm w0 wx g l'->l'.length+(Bi ps[i]).length<=1099511627776->Calls Tryz.prog 132 #[.pointer (some ⟨pb,po+i*6,none⟩),.pointer (some ⟨g,0,none⟩)] wx fun e w'=>e=.returned (.tuple #[])/\Vm w0 w' g (l'++Bi ps[i])):=Hd fun i hi=>by
   obtain⟨pb,po,hA,_,kH⟩:=kE.at (by omega);exact⟨pb,po,hA,fun wx l' hn hl=>hp _ (List.getElem_mem hi) K w0 wx pb (po+i*6) g l' (kH i hi) (D1 hE _ (List.getElem_mem hi)) hn hl⟩
  have HF:Z9 (∀i (hi:i<fs.length),∃pb po,A2=some ⟨pb,po,none⟩/\∀wx l',Vm w0 wx g l'->l'.length+(Bi fs[i].2.2).length<=1099511627776->Calls Tryz.prog 132 #[.pointer (some ⟨pb,po+i*8+2,none⟩),.pointer (some ⟨g,0,none⟩)] wx fun e w'=>e=.returned (.tuple #[])/\Vm w0 w' g (l'++Bi fs[i].2.2)):=Hd fun i hi=>by
   obtain⟨pb,po,hA,_,kH⟩:=kD.at (by omega);exact⟨pb,po,hA,fun wx l' hn hl=>hf _ (List.getElem_mem hi) K w0 wx pb (po+i*8+2) g l' (kH i hi).2.2.2 (Je hE _ (List.getElem_mem hi)) hn hl⟩
  have y0:=Aa (Fu hN) x0;have y3:=Aa (Fu hN) x3;have kN:=Hd hN;have hX:=Hd hG;clear hT hE hG kB hN x0 x1 x2 x3 x4 x5 kE kD hp hf hk;go_enter Tryz.func132,Tryz.ntmps132;go_wp2_with fail;clear y0 y3
  go_loopw [27] (fun v wr=>∃(i:Nat) (N:List Z8),i<=ps.length/\v=.int .i64 i/\N++Cu k i (ps.drop i)=Cu k 0 ps/\Vm w0 wr g (l++N)) (fun v _=>ps.length - (intOf v).toNat)
  case atStart=>exact⟨0,[],by omega,rfl,by rw[List.drop_zero];rfl,by rw[List.append_nil];exact kN.o⟩
  case round=>
   obtain⟨i,N,hi,rfl,he,hn⟩:=hrel;have HE:=Hd he;have HN:=Hd hn;obtain⟨z3,z4⟩:=hZ.o _ (Fu hn);have PI:=Hd (PT.o _ (Fu hn) i);clear he hn;by_cases hL:i<ps.length
   ·have t1:decide ((i:Int)<(ps.length:Int))=true:=(by simp;omega);have hR:wrap64 ((i:Int)+1)=((i+1:Nat):Int):=Ax (by omega);have i1:(0:Int)<=(i:Int):=(by omega);have i2:(i:Int)<(ps.length:Int):=(by omega);have HM:=Hd (Bf hL);have hS:Z9 (i+1<=ps.length):=Hd hL;obtain⟨pb,po,hA,hD⟩:=HP.o i hL;subst hA;have hC:=Mo (k:=k) hL;have HC:Z9 ((k == 21 && i == 1)=false->Calls Tryz.prog 132 #[.pointer (some ⟨pb,po+i*6,none⟩),.pointer (some ⟨g,0,none⟩)] _ fun e w'=>e=.returned (.tuple #[])/\Vm w0 w' g ((l++N)++Bi ps[i])):=Hd fun hq=>hD _ _ HN.o (by
     have h1:=hX.o;rw[<-HE.o,hC,hq,if_neg (by decide)]at h1;simp only[List.length_append]at h1 ⊢;omega)
    have HS:=Hd hC;generalize hq:(k == 21 && i == 1)=q at PI HS HC;clear hD hC hq hi;go_wp2_with fail;refine PI.o.mono ?_;rintro e w2 ⟨rfl,hw⟩;obtain rfl:=hw.symm
    cases q with
    | true=>
     go_wp2_with fail;refine⟨⟨i+1,N,hS.o,by first|rfl|rw[hR],by rw[<-HE.o,HS.o];simp,HN.o⟩,?_⟩;first|exact HM.o|(rw[hR];exact HM.o)
    | false=>
     go_wp2_with fail;refine (HC.o trivial).mono ?_;rintro e w3 ⟨rfl,kA⟩;have kF:=Hd kA;clear kA;go_wp2_with fail;refine⟨⟨i+1,N++Bi (ps[i]'hS.o),hS.o,by first|rfl|rw[hR],by rw[<-HE.o,HS.o];simp,by rw[<-List.append_assoc];exact kF.o⟩,?_⟩;first|exact HM.o|(rw[hR];exact HM.o)
   ·have t1:decide ((i:Int)<(ps.length:Int))=false:=(by simp;omega);have kJ:Z9 (N=Cu k 0 ps):=Hd (by rw[<-HE.o,List.drop_eq_nil_of_le (by omega),Cu,List.append_nil]);clear hi PI;go_wp2_with fail;clear z3 z4;have kM:=Hd HN.o
    go_loopw [48] (fun v wx=>∃(i:Nat) (M:List Z8),i<=fs.length/\v=.int .i64 i/\M++Dk (fs.drop i)=Dk fs/\Vm w0 wx g ((l++N)++M)) (fun v _=>fs.length - (intOf v).toNat)
    case atStart=>exact⟨0,[],by omega,rfl,by rw[List.drop_zero];rfl,by rw[List.append_nil];exact kM.o⟩
    case round=>
     obtain⟨i,M,hi,rfl,he,hn⟩:=hrel;have HE:=Hd he;have HN:=Hd hn;obtain⟨z3,z4⟩:=hZ.o _ (Fu hn);clear he hn;by_cases hL:i<fs.length
     ·have t1:decide ((i:Int)<(fs.length:Int))=true:=(by simp;omega);have hR:wrap64 ((i:Int)+1)=((i+1:Nat):Int):=Ax (by omega);have i1:(0:Int)<=(i:Int):=(by omega);have i2:(i:Int)<(fs.length:Int):=(by omega);have HM:=Hd (Bf hL);have hS:Z9 (i+1<=fs.length):=Hd hL;obtain⟨pb,po,hA,hD⟩:=HF.o i hL;subst hA;have hC:=Mn hL;have HC:=Hd (hD _ _ HN.o (by
       have h1:=hX.o;rw[<-kJ.o,<-HE.o,hC]at h1;simp only[List.length_append]at h1 ⊢;omega))
      have HS:=Hd hC;clear hD hC hi;go_wp2_with fail;refine HC.o.mono ?_;rintro e w3 ⟨rfl,kA⟩;have kF:=Hd kA;clear kA;go_wp2_with fail;refine⟨⟨i+1,M++Bi (fs[i]'hS.o).2.2,hS.o,by first|rfl|rw[hR],by rw[<-HE.o,HS.o,List.append_assoc],by rw[<-List.append_assoc];exact kF.o⟩,?_⟩;first|exact HM.o|(rw[hR];exact HM.o)
     ·have t1:decide ((i:Int)<(fs.length:Int))=false:=(by simp;omega);have kL:Z9 (M=Dk fs):=Hd (by rw[<-HE.o,List.drop_eq_nil_of_le (by omega)];simp[Dk]);clear hi;go_wp2_with fail;exact bodyPost_end (v:=.tuple #[]) (by simp[results,Tryz.results132,go_sem]) rfl ⟨rfl,by rw[<-kJ.o,<-kL.o,<-List.append_assoc];exact HN.o⟩
theorem Jbd (t:Ty):Ri t:=Ty.ind (C:=Ri) (fun k t n ps fs vs hp hf _=>Yg k t n ps fs vs hp hf) t
theorem Xd (l:List Ty) (t:Ty):Au (l++[t])=Au l+Am t:=by rw[Iw,Cj,Gz];omega
theorem Pf:∀(l:Bv) (f:Z8×Int×Ty),Bm (l++[f])=Bm l+Am f.2.2
 | [],f=>by simp[Bm]
 | g :: l,f=>by
  have e1:Bm (g :: (l++[f]))=Am g.2.2+Bm (l++[f]):=by simp[Bm]
  have e2:Bm (g :: l)=Am g.2.2+Bm l:=by simp[Bm]
  rw[List.cons_append,e1,e2,Pf l f];omega
theorem Xc {l:List Ty}{i:Nat}(h:i<l.length):Au (l.take (i+1))=Au (l.take i)+Am l[i]:=by
 rw[List.take_succ_eq_append_getElem h,Xd]
theorem Pe {l:Bv}{i:Nat}(h:i<l.length):Bm (l.take (i+1))=Bm (l.take i)+Am l[i].2.2:=by
 rw[List.take_succ_eq_append_getElem h,Pf]
theorem Tw (l:List Ty) (i:Nat):Au (l.take i)<=Au l:=by
 have h:Au (l.take i++l.drop i)=Au l:=by rw[List.take_append_drop i l]
 rw[Iw]at h;omega
theorem Bh.but {O K K':Nat->Prop}{a b:World}{l:List Ty}{A:Option Addr}{c:Nat}(h:Bh K a l A c) (hb:Ad O a b) (hk:∀x,K x->¬ O x/\K' x):Bh K' b l A c:=by
 obtain⟨g,o,h1,h2⟩:=h;refine⟨g,o,h1.weak fun x hx=>(hk x hx).2,fun i hi=>?_⟩;have hg:=(h1.some (by omega)).2;exact (h2 i hi).keep (fun x hx=>(hk x hx).2) (fun x _ _ hx hc=>hb.cell (hk x hx).1 hc) fun _ _ hc=>hb.cell (hk g hg).1 hc
theorem Ns (l:Bv) (i:Nat):Bm (l.take i)<=Bm l:=by
 have h:Bm (l.take i++l.drop i)=Bm l:=by rw[List.take_append_drop i l]
 have e:∀a c:Bv,Bm (a++c)=Bm a+Bm c:=fun a c=>by
  induction a with
  | nil=>simp[Bm]
  | cons x a ih=>
   have e1:Bm (x :: (a++c))=Am x.2.2+Bm (a++c):=by simp[Bm]
   have e2:Bm (x :: a)=Am x.2.2+Bm a:=by simp[Bm]
   rw[List.cons_append,e1,e2,ih];omega
 rw[e]at h;omega
theorem Jf4:(Tryz.prog.info? 59).map (fun i=>(i.zero,i.size,i.bytes))=some (some (.agg #[.string ⟨#[]⟩,.int .i64 0,.int .i64 0,.string ⟨#[]⟩,.int .i64 0,.slice none 0 0,.slice none 0 0,.slice none 0 0]),8,128):=by kernel_rfl
theorem ε {fl:Int}(h0:0<=fl) (h3:fl<=3):fl=0\/fl=1\/fl=2\/fl=3:=by omega
theorem Rn (hU:Jw) {K:Nat->Prop}{w:World}{t:Ty}{cs:List Value}(hr:An K w t cs) (kA:∀b,K b->b<w.heap.size) (hX:Ai t=true) (hk:t.k=14) (hc:Am t<=1000000) (name:Z8) :
  Calls Tryz.prog 122 #[.agg cs.toArray,.string name] w (Ek K w (Gj t.fs name)):=by
 have hY:=Mf hX hk;have hH:∀f∈t.fs,(f.2.1=0\/f.2.1=1\/f.2.1=2\/f.2.1=3)/\(Bk [E7 4,f.2.2]).length<=1099511627776:=fun f hf=>by
  obtain⟨_,h0,h3,_⟩:=Mb hY hf;have h1:=(Jb [E7 4,f.2.2]).1;have h2:=Jfz hf;rw[Cj,Cj,Gz,Kg]at h1;exact⟨ε h0 h3,by omega⟩
 obtain⟨k,s,n,ps,fs,vs⟩:=t;have KF:=Hd fun wx (hx:Below w.heap.size w wx)=>R9 (hr.later hx) name;obtain⟨A,c,A',c',A'',c'',rfl,-⟩:=hr.inv;simp only[Ao]at hr KF ⊢;obtain⟨w1,hE⟩:∃x,x=(w.alloc (.cells #[.int .i64 k,.string s,.int .i64 n,.slice A ps.length c,.slice A' fs.length c',.slice A'' vs.length c''] 26)).alloc (.cells #[.int .i64 0,.string ⟨#[]⟩,.int .i64 0,.slice none 0 0,.slice none 0 0,.slice none 0 0] 26):=⟨_,rfl⟩;obtain⟨g,hg⟩:∃g,g=w.heap.size+1:=⟨_,rfl⟩;have hV:Below w.heap.size w w1:=by rw[hE];exact ((Below.refl _ _).alloc (Nat.le_refl _) _).alloc (by simp) _
 have kC:w1.heap.size=w.heap.size+2:=by rw[hE];simp
 have kD:w1.heap[w.heap.size]?=some (.cells #[.int .i64 k,.string s,.int .i64 n,.slice A ps.length c,.slice A' fs.length c',.slice A'' vs.length c''] 26 (0,0)):=by rw[hE,Below.heap_alloc _ _ _ (by simp)];exact heap_alloc_new w _
 have kE:w1.heap[g]?=some (.cells #[.int .i64 0,.string ⟨#[]⟩,.int .i64 0,.slice none 0 0,.slice none 0 0,.slice none 0 0] 26 (0,0)):=by
  rw[hE,hg];have h:=heap_alloc_new (w.alloc (.cells #[.int .i64 k,.string s,.int .i64 n,.slice A ps.length c,.slice A' fs.length c',.slice A'' vs.length c''] 26)) (.cells #[.int .i64 0,.string ⟨#[]⟩,.int .i64 0,.slice none 0 0,.slice none 0 0,.slice none 0 0] 26);rw[World.size_alloc]at h;exact h
 have HB1:=Hd hV;have HS1:=Hd kC;have HX0:=Hd kD;have HX1:=Hd kE;have HW1:=Hd hE;have HG:=Hd hg;have hN:=Hd kA;have HU:=Hd hU;have hA:=Hd hH;have e0:Ty.fs (.mk k s n ps fs vs)=fs:=rfl;rw[e0]at KF hA ⊢;have hD:Z9 (Gj fs name=match fs.find? fun f=>decide (f.1=name) with|none=>E7 2|some f=>Js f):=Hd rfl;generalize hu:Gj fs name=u at hD ⊢;have hL:Z9 (∀f,fs.find? (fun f=>decide (f.1=name))=some f->f∈fs):=Hd fun f h=>List.mem_of_find?_eq_some h;generalize fs.find? (fun f=>decide (f.1=name))=fd at hD hL KF;obtain⟨k2,s2,n2,hI,hG,hJ⟩:=u;unfold Ek;clear hr hV kC kD kE hE hg kA hU hH hY hX hk hc e0 hu;go_enter Tryz.func122,Tryz.ntmps122;go_upto_region 1 with fail
 rw[<-HW1.o,<-HG.o];obtain⟨x0,x1,x2,x3,x4,x5⟩:=Dw HX0.o;go_wp2_with fail;refine (KF.o _ HB1.o).mono ?_;rintro e w2 ⟨hm,hb⟩;have hC:=Hd hb;have hK:=Hd (HB1.o.trans (hb.mono HB1.o.size));have rb:=Ay hC.o (by have:=HG.o;have:=HS1.o;omega) HX1.o;have RB:=Hd rb;clear x0 x1 x2 x3 x4 x5 KF hb rb;rcases fd with _|f
 ·have he:e=.returned (.tuple #[.agg #[.string ⟨#[]⟩,.int .i64 0,.int .i64 0,.string ⟨#[]⟩,.int .i64 0,.slice none 0 0,.slice none 0 0,.slice none 0 0],.bool false]):=hm;have HQ:Z9 (Ty.mk k2 s2 n2 hI hG hJ=E7 2):=Hd hD.o;subst he;clear hm hD hL hA;go_upto_region 3 with fail
  generalize hW:w2.alloc (.cells #[.string ⟨#[]⟩,.int .i64 0,.int .i64 0,.string ⟨#[]⟩,.int .i64 0,.slice none 0 0,.slice none 0 0,.slice none 0 0] 59)=W;have hB:Below w2.heap.size w2 W:=by rw[<-hW];exact (Below.refl _ _).alloc (Nat.le_refl _) _
  have hF:=Hd (hK.o.trans (hB.mono hK.o.size));have hQ:=Hd (hC.o.trans (hB.mono hC.o.size));have kH:w.heap.size+2<=w2.heap.size:=by have:=HS1.o;have:=hC.o.size;omega
  have rb:=Ay hB (by have:=HG.o;omega) RB.o;clear hW hB;obtain⟨q0,q1,q2,q3,q4,q5,z0,z1,z2,z3,z4,z5⟩:=Hr rb;have RBX:=Hd rb;clear rb;go_wp2_with fail;have rs:=Bt RBX.o (.int .i64 2) (.string ⟨#[]⟩) (.int .i64 0) (.slice none 0 0) (.slice none 0 0) (.slice none 0 0);obtain⟨r0,r1,r2,r3,r4,r5⟩:=Dw rs;clear q0 q1 q2 q3 q4 q5 z0 z1 z2 z3 z4 z5 RBX rs;refine bodyPost_ret (v:=.agg #[.int .i64 2,.string ⟨#[]⟩,.int .i64 0,.slice none 0 0,.slice none 0 0,.slice none 0 0]) (by simp[results,Tryz.results122,go_sem,r0,r1,r2,r3,r4,r5]) rfl ?_;clear r0 r1 r2 r3 r4 r5;rw[HQ.o];exact⟨[.int .i64 2,.string ⟨#[]⟩,.int .i64 0,.slice none 0 0,.slice none 0 0,.slice none 0 0],rfl,Fw (Wi (fun b=>K b\/g<b) W 2) (fun b h=>by have:=hN.o b h;have:=HG.o;omega) (by have:=HG.o;omega) _ _ _ _ _ _,Bj hF.o (by have:=HG.o;omega) _ _ _ _ _ _⟩
 ·obtain⟨nm,fl,t2⟩:=f;obtain⟨ds,he,hP⟩:∃ds,e=.returned (.tuple #[.agg (.string nm :: .int .i64 fl :: ds).toArray,.bool true])/\An K w1 t2 ds:=hm;have HQ:Z9 (Ty.mk k2 s2 n2 hI hG hJ=Js (nm,fl,t2)):=Hd hD.o;have hR:=Hd (hA.o _ (hL.o _ rfl));clear hD hL hA;have hS:=Hd hP;obtain⟨k3,s3,n3,ps3,fs3,vs3⟩:=t2;obtain⟨A3,c3,B3,d3,C3,e3,rfl,-⟩:=hP.inv;simp only[Ao]at he hS;clear hP;subst he;go_upto_region 4 with fail
  generalize hW:w2.alloc (.cells #[.string nm,.int .i64 fl,.int .i64 k3,.string s3,.int .i64 n3,.slice A3 ps3.length c3,.slice B3 fs3.length d3,.slice C3 vs3.length e3] 59)=W;have hB:Below w2.heap.size w2 W:=by rw[<-hW];exact (Below.refl _ _).alloc (Nat.le_refl _) _
  have hF:=Hd (hK.o.trans (hB.mono hK.o.size));have hQ:=Hd (hC.o.trans (hB.mono hC.o.size));have kH:w.heap.size+2<=w2.heap.size:=by have:=HS1.o;have:=hC.o.size;omega
  have kF:W.heap[w2.heap.size]?=some (.cells #[.string nm,.int .i64 fl,.int .i64 k3,.string s3,.int .i64 n3,.slice A3 ps3.length c3,.slice B3 fs3.length d3,.slice C3 vs3.length e3] 59 (0,0)):=by rw[<-hW];exact heap_alloc_new w2 _
  have rb:=Ay hB (by have:=HG.o;omega) RB.o;have hZ:w2.heap.size<W.heap.size:=by rw[<-hW];simp
  have KH:=Hd (Ja8 HU.o (hS.o.later hQ.o) (fun b h=>by have:=hN.o b h;have:=hF.o.size;omega) hR.o.1 hR.o.2 (nm:=nm));have RB2:=Hd (And.intro rb hZ);obtain⟨x0,x1,x2,x3,x4,x5,x6,x7⟩:=cz8 kF;clear hW hB kF rb hZ;go_wp2_with fail;refine KH.o.mono ?_;rintro e w5 ⟨rs,rfl,kB,hO⟩;have kG:=Hd (hF.o.trans (hO.mono hF.o.size));have rb:=Ay hO (by have:=HG.o;have:=RB2.o.2;omega) RB2.o.1;have hM:An (fun b=>K b\/g<b) w5 (Js (nm,fl,.mk k3 s3 n3 ps3 fs3 vs3)) rs:=kB.weak fun b h=>h.imp id fun h=>by have:=HG.o;have:=RB2.o.2;omega
  clear kB hO KH x0 x1 x2 x3 x4 x5 x6 x7;rw[<-HQ.o]at hM;obtain⟨Aq,cq,Ag,cg,Ah,ch,rfl,-⟩:=hM.inv;have hT:=Hd hM;simp only[Ao]at hT ⊢;clear hM;obtain⟨q0,q1,q2,q3,q4,q5,z0,z1,z2,z3,z4,z5⟩:=Hr rb;have RBX:=Hd rb;clear rb;go_wp2_with fail;have rs:=Bt RBX.o (.int .i64 k2) (.string s2) (.int .i64 n2) (.slice Aq hI.length cq) (.slice Ag hG.length cg) (.slice Ah hJ.length ch);obtain⟨r0,r1,r2,r3,r4,r5⟩:=Dw rs;clear q0 q1 q2 q3 q4 q5 z0 z1 z2 z3 z4 z5 RBX rs;refine bodyPost_ret (v:=.agg #[.int .i64 k2,.string s2,.int .i64 n2,.slice Aq hI.length cq,.slice Ag hG.length cg,.slice Ah hJ.length ch]) (by simp[results,Tryz.results122,go_sem,r0,r1,r2,r3,r4,r5]) rfl ?_;clear r0 r1 r2 r3 r4 r5;exact⟨[.int .i64 k2,.string s2,.int .i64 n2,.slice Aq hI.length cq,.slice Ag hG.length cg,.slice Ah hJ.length ch],rfl,Fw hT.o (fun b h=>by have:=hN.o b h;have:=HG.o;omega) (by have:=HG.o;omega) _ _ _ _ _ _,Bj kG.o (by have:=HG.o;omega) _ _ _ _ _ _⟩
theorem Ad.set {O:Nat->Prop}{a w:World}(h:Ad O a w) {p:Addr}(hp:O p.block\/a.heap.size<=p.block) (u:Value):Ad O a (w.setCell p u):=
 ⟨h.os,h.tape,h.output,by have:=h.size;simpa [World.setCell] using this,fun k hk hn=>(Below.heap_setCell w p u k fun e=>hp.elim (fun h'=>hn (by rw[e];exact h')) fun h'=>by omega).trans (h.block k hk hn)⟩
theorem Ad.then {O:Nat->Prop}{a w w':World}(h:Ad O a w) (hb:Below w.heap.size w w'):Ad O a w':=
 h.trans (Ad.of_below (O:=fun _=>False) hb) fun _ hx=>hx.elim
theorem Ad.mono {O O':Nat->Prop}{a w:World}(h:Ad O a w) (ho:∀x,O x->O' x):Ad O' a w:=
 ⟨h.os,h.tape,h.output,h.size,fun k hk hn=>h.block k hk fun e=>hn (ho k e)⟩
theorem Ad.up {O:Nat->Prop}{a w:World}(h:Ad O a w) {c:Nat}{o:Obj}(hc:¬ O c) (hx:a.heap[c]?=some o):w.heap[c]?=some o:=
 (h.block c (Array.getElem?_eq_some_iff.1 hx).1 hc).trans hx
theorem C0 {W:World}{b:Nat}{T:TypeId}{cs:Array Value}(h:W.heap[b]?=some (.cells cs T (0,0))) (i:Nat) (y:Value):(W.setCell ⟨b,i,none⟩ y).heap[b]?=some (.cells (cs.setIfInBounds i y) T (0,0)):=by
 simp only[World.setCell,Array.getElem?_modify,if_pos,h,Option.map_some];rfl
theorem Du.but {O K K':Nat->Prop}{a b:World}{l:Bv}{A:Option Addr}{c:Nat}(h:Du K a l A c) (hb:Ad O a b) (hk:∀x,K x->¬ O x/\K' x):Du K' b l A c:=by
 obtain⟨g,o,h1,h2⟩:=h;refine⟨g,o,h1.weak fun x hx=>(hk x hx).2,fun i hi=>?_⟩;have hg:=(h1.some (by omega)).2;obtain⟨h3,h4,h5,h6⟩:=h2 i hi;exact⟨hb.cell (hk g hg).1 h3,hb.cell (hk g hg).1 h4,h5,h6.keep (fun x hx=>(hk x hx).2) (fun x _ _ hx hc=>hb.cell (hk x hx).1 hc) fun _ _ hc=>hb.cell (hk g hg).1 hc⟩
theorem Dd.but {O K K':Nat->Prop}{a b:World}{l:Bw}{A:Option Addr}{c:Nat}(h:Dd K a l A c) (hb:Ad O a b) (hk:∀x,K x->¬ O x/\K' x):Dd K' b l A c:=by
 obtain⟨g,o,h1,h2⟩:=h;refine⟨g,o,h1.weak fun x hx=>(hk x hx).2,fun i hi=>?_⟩;have hg:=(h1.some (by omega)).2;obtain⟨B,d,h3,h4,h5,h6⟩:=h2 i hi;exact⟨B,d,hb.cell (hk g hg).1 h3,hb.cell (hk g hg).1 h4,h5,h6.but hb hk⟩
theorem Ad.put1 {b:Nat}{a w:World}(h:Ad (fun x=>x=b) a w) (i:Nat) (u:Value):Ad (fun x=>x=b) a (w.setCell ⟨b,i,none⟩ u):=
 Ad.set (O:=fun x=>x=b) (p:=⟨b,i,none⟩) h (.inl rfl) u
theorem Di (w:World) (g:Nat) (y0 y1 y2 y3 y4 y5:Value):Ad (fun x=>x=g) w ((((((w.setCell ⟨g,0,none⟩ y0).setCell ⟨g,1,none⟩ y1).setCell ⟨g,2,none⟩ y2).setCell ⟨g,3,none⟩ y3).setCell ⟨g,4,none⟩ y4).setCell ⟨g,5,none⟩ y5):=
 ((((((Ad.refl _ _).put1 0 y0).put1 1 y1).put1 2 y2).put1 3 y3).put1 4 y4).put1 5 y5
theorem Ad.from {O:Nat->Prop}{a w w':World}(hb:Below a.heap.size a w) (h:Ad O w w'):Ad O a w':=
 (Ad.of_below (O:=O) hb).trans h fun _ hx=>.inl hx
theorem Ω (w:World) (a:Option Addr) (l c:Nat):(binOp .eql 22 (.slice a l c) (.slice none 0 0)).run Tryz.prog w=.ok (.bool a.isNone) w:=by
 simp[binOp,run_equal_slice_nil w 22 26 a l c K1]
theorem Nq (ad:Addr) (n c:Nat) (news:List Value) (w:World) (hn:n<=1000000) (hl:news.length=n*6) (h1:∀u∈news,u.oneCell'=true) (h:∀j u,news[j]?=some u->w.cell? (ad.add j)=some u) :
  Calls Tryz.prog 66 #[.slice (some ad) n c] w fun e w'=>∃g c',e=.returned (.slice (some ⟨g,0,none⟩) n c')/\w.heap.size<=g/\g<w'.heap.size/\n<=c'/\w'.ownsRow w.heap.size 26 6 (.slice (some ⟨g,0,none⟩) n c') n news/\Below w.heap.size w w':=by
 obtain⟨i0,hG,hI,hJ,hK⟩:=Ec Hf;have HS:=Hd h;have HN:=Hd hn;have HL:=Hd hl;have HO:=Hd h1;have hq:=Ω w (some ad) n c;simp only[Option.isNone_some]at hq;clear h hn hl h1;go_enter Tryz.func66,Tryz.ntmps66;have HE:=Hd (World.ownsRow_lit (base:=w.heap.size) (e:=26) (size:=6) w #[] 0 (Nat.le_refl _) (by decide) rfl);go_wp2_with (at_builtin;go_loud (refine wpList_append_own _ rfl _ _ 22 rfl w.heap.size 26 i0 (.agg #[.int .i64 0,.string ⟨#[]⟩,.int .i64 0,.slice none 0 0,.slice none 0 0,.slice none 0 0]) 6 104 K1 hG hI hJ hK rfl (by decide) _ _ _ rfl HE.o ad n c news rfl ?a0 ?a1 ?a2 ?a3 ?a4 ?a5 ?_))
 case a0=>exact HL.o
 case a1=>exact fun j u hj=>Aa ((Below.refl _ _).alloc (Nat.le_refl _) _) (HS.o j u hj)
 case a2=>exact HO.o
 case a3=>exact Nat.le_trans HN.o (by decide:1000000<=maxLen)
 case a4=>have:=HN.o;omega
 intro v' w' hB hA hD;obtain⟨g,cap,hv,hE,hF,hH,hC⟩:∃g cap,v'=.slice (some ⟨g,0,none⟩) n cap/\w.heap.size<=g/\g<w'.heap.size/\n<=cap/\w'.ownsRow w.heap.size 26 6 (.slice (some ⟨g,0,none⟩) n cap) n news:=by
  have h2:=hB.2;rcases h2 with ⟨h3,h4⟩|⟨g,cap,cur,h3,h4,h5,h6,_⟩
  ·exact absurd h3 hD
  ·subst h3;exact⟨g,cap,rfl,h4,(Array.getElem?_eq_some_iff.1 h5).1,h6,hB⟩
 subst hv;have hb:Below w.heap.size w w':=((Below.refl w.heap.size w).alloc (Nat.le_refl _) (.cells #[] 26)).grown hA (by simp) (fun k hk=>by simp[Value.ownBlock]at hk;omega);have HB:=Hd hb;have HR:=Hd hC;clear hB hA hD hb hC
 go_wp2
 go_ret
 exact⟨g,cap,rfl,hE,hF,hH,HR.o,HB.o⟩
theorem Kf (w:World) :
  Calls Tryz.prog 66 #[.slice none 0 0] w fun e w'=>e=.returned (.slice none 0 0)/\w=w':=by
 have hq:=Ω w none 0 0;simp only[Option.isNone_none]at hq;go_enter Tryz.func66,Tryz.ntmps66;go_wp2_with fail;go_ret
 exact⟨rfl,rfl⟩
theorem Ψ (w:World) (a:Option Addr) (l c:Nat):(binOp .eql 23 (.slice a l c) (.slice none 0 0)).run Tryz.prog w=.ok (.bool a.isNone) w:=by
 simp[binOp,run_equal_slice_nil w 23 59 a l c Tryz.underlying23]
theorem Rs (ad:Addr) (n c:Nat) (news:List Value) (w:World) (hn:n<=1000000) (hl:news.length=n*8) (h1:∀u∈news,u.oneCell'=true) (h:∀j u,news[j]?=some u->w.cell? (ad.add j)=some u) :
  Calls Tryz.prog 67 #[.slice (some ad) n c] w fun e w'=>∃g c',e=.returned (.slice (some ⟨g,0,none⟩) n c')/\w.heap.size<=g/\g<w'.heap.size/\n<=c'/\w'.ownsRow w.heap.size 59 8 (.slice (some ⟨g,0,none⟩) n c') n news/\Below w.heap.size w w':=by
 obtain⟨i0,hG,hI,hJ,hK⟩:=Ec Jf4;have HS:=Hd h;have HN:=Hd hn;have HL:=Hd hl;have HO:=Hd h1;have hq:=Ψ w (some ad) n c;simp only[Option.isNone_some]at hq;clear h hn hl h1;go_enter Tryz.func67,Tryz.ntmps67;have HE:=Hd (World.ownsRow_lit (base:=w.heap.size) (e:=59) (size:=8) w #[] 0 (Nat.le_refl _) (by decide) rfl);go_wp2_with (at_builtin;go_loud (refine wpList_append_own _ rfl _ _ 23 rfl w.heap.size 59 i0 (.agg #[.string ⟨#[]⟩,.int .i64 0,.int .i64 0,.string ⟨#[]⟩,.int .i64 0,.slice none 0 0,.slice none 0 0,.slice none 0 0]) 8 128 Tryz.underlying23 hG hI hJ hK rfl (by decide) _ _ _ rfl HE.o ad n c news rfl ?a0 ?a1 ?a2 ?a3 ?a4 ?a5 ?_))
 case a0=>exact HL.o
 case a1=>exact fun j u hj=>Aa ((Below.refl _ _).alloc (Nat.le_refl _) _) (HS.o j u hj)
 case a2=>exact HO.o
 case a3=>exact Nat.le_trans HN.o (by decide:1000000<=maxLen)
 case a4=>have:=HN.o;omega
 intro v' w' hB hA hD;obtain⟨g,cap,hv,hE,hF,hH,hC⟩:∃g cap,v'=.slice (some ⟨g,0,none⟩) n cap/\w.heap.size<=g/\g<w'.heap.size/\n<=cap/\w'.ownsRow w.heap.size 59 8 (.slice (some ⟨g,0,none⟩) n cap) n news:=by
  have h2:=hB.2;rcases h2 with ⟨h3,h4⟩|⟨g,cap,cur,h3,h4,h5,h6,_⟩
  ·exact absurd h3 hD
  ·subst h3;exact⟨g,cap,rfl,h4,(Array.getElem?_eq_some_iff.1 h5).1,h6,hB⟩
 subst hv;have hb:Below w.heap.size w w':=((Below.refl w.heap.size w).alloc (Nat.le_refl _) (.cells #[] 59)).grown hA (by simp) (fun k hk=>by simp[Value.ownBlock]at hk;omega);have HB:=Hd hb;have HR:=Hd hC;clear hB hA hD hb hC
 go_wp2
 go_ret
 exact⟨g,cap,rfl,hE,hF,hH,HR.o,HB.o⟩
theorem Qj (w:World) :
  Calls Tryz.prog 67 #[.slice none 0 0] w fun e w'=>e=.returned (.slice none 0 0)/\w=w':=by
 have hq:=Ψ w none 0 0;simp only[Option.isNone_none]at hq;go_enter Tryz.func67,Tryz.ntmps67;go_wp2_with fail;go_ret
 exact⟨rfl,rfl⟩
