import Derived.Test.YtlpfpehegddcfaaGreatDoorMw30
namespace Go.Proofs.YtlpfpehegddcfaaGreatDoor
set_option maxRecDepth 100000
set_option maxHeartbeats 64000000
open Go.RowKit
theorem Jcz {s:Z8}{n:Int}{ps:List Ty}{fs:Bv}{vs:Bw}:Nk (.mk 16 s n ps fs vs):=by
 intro K U g mb mf w bp op c S ha kH hK hS hU hX hc hZ kN;obtain⟨A,d,A2,d2,A3,d3,HX,HP,HF,HV,HT⟩:=Rc ha kH hK;obtain⟨l1,l2,-,-⟩:=Ew hZ;have hF:Z9 (ps.length=0):=Hd ((Qp (Dx hZ)).2.2 rfl);have hG:Z9 (fs.length=0):=Hd (l1 (by decide));have hJ:Z9 (vs.length=0):=Hd (l2 (by decide));have HK:=Hd hK;have kE:=Hd hX;have HC:=Hd hc;have kC:Z9 (∀x,Bx x (.mk 16 s n ps fs vs)=decide (s=x)):=Hd fun x=>by
  have e1:ps=[]:=List.eq_nil_of_length_eq_zero hF.o;have e2:fs=[]:=List.eq_nil_of_length_eq_zero hG.o;have e3:vs=[]:=List.eq_nil_of_length_eq_zero hJ.o;rw[Fd,e1,e2,e3];have e4:Mh x []=false:=rfl;have e5:Ox x []=false:=rfl;rw[e4,e5,Fl];simp
 have kA:s.size<=maxLen:=Nat.le_trans HT.o (by decide);obtain⟨v1,kB⟩:∃v1,v1=c s:=⟨_,rfl⟩;have hR:=hS.later (Below.refl w.heap.size w).drew;have hH:=hS.later (Below.refl w.heap.size w).drew.drew;have lk:(Instr.lookup 185 (.map (some mb)) (.string s) false).run Tryz.prog w.drew=.ok (.int .i64 (v1:Int)) w.drew:=by rw[kB];exact hR.look s kA
 have LK:=Hd lk;have hY:Ad (fun x=>x=mb\/x=mf) w w.drew:=Ad.of_below (Below.refl _ _).drew;have hQ:Ad (fun x=>x=mb\/x=mf) w w.drew.drew:=Ad.of_below (Below.refl _ _).drew.drew;have HB1:=Hd hY;have kO:=Hd hQ;have kD:Z9 (w.drew.cell? ⟨g,0,none⟩=some (.map (some mb))/\w.drew.cell? ⟨bp,op+1,none⟩=some (.string s)):=Hd ⟨hR.cell.1,(HX.o _ hY).2.1⟩;have hI:Z9 (w.drew.drew.cell? ⟨g,1,none⟩=some (.map (some mf))/\w.drew.drew.cell? ⟨bp,op+1,none⟩=some (.string s)):=Hd ⟨hH.cell.2,(HX.o _ hQ).2.1⟩;obtain⟨w4,hT,kI,kG⟩:=hH.add hX s (hU s I5) kA;have kM:=Hd hT;have kK:Z9 (F3 U w4 g mb mf c (fun x=>decide (s=x) || S x)):=Hd kI;have kJ:Z9 (Ad (fun x=>x=mb\/x=mf) w w4):=Hd (hQ.trans kG fun x h=>.inl (.inr h));have kL:Z9 (F3 U w.drew g mb mf c S):=Hd hR;obtain⟨x0,-,-,-,-,-⟩:=HX.o _ (Ad.refl _ _);have kF:=Hd kB;clear ha kH hK hS hU hX hc hZ kN l1 l2 kA hR hH lk hY hQ hT kI kG kB;go_enter Tryz.func153,Tryz.ntmps153;go_upto_region 2 with fail
 clear x0;refine wp_region_held_drew (S:=(fun w'=>w'.cell? ⟨g,0,none⟩=some (.map (some mb))/\w'.cell? ⟨bp,op+1,none⟩=some (.string s))) (by kernel_rfl) kD.o (fun hA=>?_);refine Ab.s [0,1,2,3,4,5,6,7] ?_
 iterate 8 (refine Ab.k (so rfl) hA ?_;try simp only[Act.put,Az,Ba,Bb])
 refine Ab.d ?_;have lk:=LK.o;refine wpAnyH_ready (rs:=[8]) (by kernel_rfl) (by simp) ?_;refine AllReadyH.cons (sd (some 23) rfl) (fun Kx hK=>?_) AllReadyH.nil;go_simp;clear lk;refine hK.out _ _ (kD.o) (fun hA=>?_);clear hK Kx;try simp only[Act.put,Az,Ba,Bb]
 refine Ab.s [9] ?_;refine Ab.k (so rfl) hA ?_;try simp only[Act.put,Az,Ba,Bb]
 refine Ab.d ?_;refine wpAnyH_done (by kernel_rfl) ?_ _;clear hA;by_cases h0:v1=0
 ·have t0:((v1:Int) == 0)=true:=by simp[h0]
  rw[t0];have hW:Z9 (∀x,((decide (s=x) || S x) || (decide (c x=0) && (!Dp [] x && It x ps)))=(S x || (decide (c x=0) && Bx x (.mk 16 s n ps fs vs)))):=Hd fun x=>by
   rw[kC.o];have e1:ps=[]:=List.eq_nil_of_length_eq_zero hF.o;have e2:It x ps=false:=by rw[e1];rfl
   rw[e2];by_cases e:s=x
   ·subst e;have:c s=0:=by rw[<-kF.o];exact h0
    simp[this]
   ·simp[e]
  clear h0 t0;go_upto_region 3 with fail
  refine wp_region_held_drew (S:=(fun w'=>w'.cell? ⟨g,1,none⟩=some (.map (some mf))/\w'.cell? ⟨bp,op+1,none⟩=some (.string s))) (by kernel_rfl) hI.o (fun hA=>?_);refine Ab.s [0,1,2,3,4,5,6,7,8] ?_
  iterate 9 (refine Ab.k (so rfl) hA ?_;try simp only[Act.put,Az,Ba,Bb])
  refine Ab.d ?_;have hT:=kM.o;refine wpAnyH_ready (rs:=[9]) (by kernel_rfl) (by simp) ?_;refine AllReadyH.cons (sd none rfl) (fun Kx hK=>?_) AllReadyH.nil;go_simp;clear hT;obtain⟨wX,hD⟩:∃x,x=w4:=⟨_,rfl⟩;have hP:Z9 (F3 U wX g mb mf c (fun x=>decide (s=x) || S x)):=Hd (by rw[hD];exact kK.o);have hC:Z9 (Ad (fun x=>x=mb\/x=mf) w wX):=Hd (by rw[hD];exact kJ.o);rw[<-hD];clear hD;refine hK.out _ _ (⟨hP.o.cell.2,(HX.o _ hC.o).2.1⟩) (fun hA=>?_);clear hK Kx;try simp only[Act.put,Az,Ba,Bb]
  refine wpAnyH_done (by kernel_rfl) ?_ _;clear hA;have hL:=Et (N:=[]) (AN:=none) (cN:=0) (B:=9000000000000000000) (K:=K) ⟨0,0,fun h=>absurd h (by simp),by simp,fun i hi=>absurd hi (by simp)⟩ (fun b o e=>by cases e) (HP.o wX hC.o) (fun x hx=>⟨Nat.lt_of_lt_of_le (HK.o x hx).1 hC.o.size,(HK.o x hx).2⟩) hP.o (fun x hx=>absurd hx (by simp)) kE.o (fun x=>by have h1:=HC.o x;simp only[cI,List.countP_nil];omega) (Nat.le_refl _) (fun p hp=>absurd (List.length_pos_of_mem hp) (by have:=hF.o;omega)) (fun p hp=>absurd (List.length_pos_of_mem hp) (by have:=hF.o;omega));have KW:Z9 (Calls Tryz.prog 187 #[.pointer (some ⟨g,0,none⟩),.slice none 0 0,.slice A ps.length d] wX (Jx U g mb mf wX c _ _)):=Hd hL;obtain⟨x0,-,-,x3,-,-⟩:=HX.o _ hC.o;clear hL;go_wp2_with fail;refine KW.o.mono ?_;rintro e w3 ⟨rfl,hO,hM⟩;have hI:=Hd hO;have hE:Z9 (Ad (fun x=>x=mb\/x=mf) w w3):=Hd (hC.o.trans hM fun x h=>.inl h);clear hO hM KW x0 x3;obtain⟨-,-,-,-,-,x5⟩:=HX.o _ hE.o;go_wp2_with fail;clear x5
  go_loopw [76] (fun v wr=>(∃i:Nat,v=.int .i64 i)/\wr=w3) (fun _ _=>0)
  case atStart=>exact⟨⟨0,rfl⟩,rfl⟩
  case round=>
   obtain⟨⟨i,rfl⟩,hB⟩:=hrel;obtain rfl:w3=wr:=hB.symm;clear hB;have t1:decide ((i:Int)<(vs.length:Int))=false:=by have:=hJ.o;simp;omega
   have hN:¬ i<vs.length:=by have:=hJ.o;omega
   obtain⟨-,-,-,-,x4,-⟩:=HX.o _ hE.o;go_wp2_with fail;clear x4 t1 hN
   go_loopw [96] (fun v wr=>(∃i:Nat,v=.int .i64 i)/\wr=w3) (fun _ _=>0)
   case atStart=>exact⟨⟨0,rfl⟩,rfl⟩
   case round=>
    obtain⟨⟨i,rfl⟩,hB⟩:=hrel;obtain rfl:w3=wr:=hB.symm;clear hB;have t1:decide ((i:Int)<(fs.length:Int))=false:=(by have:=hG.o;simp;omega);have hN:¬ i<fs.length:=(by have:=hG.o;omega);have hV:=Hd (hI.o.same (fun _=>rfl) hW.o);clear t1;have t1:decide ((i:Int)<(fs.length:Int))=false:=(by have:=hG.o;simp;omega);go_wp2_with fail
    go_end0
    exact⟨rfl,hV.o,hE.o⟩
 ·have t0:((v1:Int) == 0)=false:=by simp[h0]
  rw[t0];have hW:Z9 (∀x,(S x || (decide (c x=0) && (!Dp [] x && It x ps)))=(S x || (decide (c x=0) && Bx x (.mk 16 s n ps fs vs)))):=Hd fun x=>by
   rw[kC.o];have e1:ps=[]:=List.eq_nil_of_length_eq_zero hF.o;have e2:It x ps=false:=by rw[e1];rfl
   rw[e2];by_cases e:s=x
   ·subst e;have:¬ c s=0:=by rw[<-kF.o];exact h0
    simp[this]
   ·simp[e]
  clear h0 t0;obtain⟨wX,hD⟩:∃x,x=w.drew:=⟨_,rfl⟩;have hP:Z9 (F3 U wX g mb mf c S):=Hd (by rw[hD];exact kL.o);have hC:Z9 (Ad (fun x=>x=mb\/x=mf) w wX):=Hd (by rw[hD];exact HB1.o);rw[<-hD];clear hD;have hL:=Et (N:=[]) (AN:=none) (cN:=0) (B:=9000000000000000000) (K:=K) ⟨0,0,fun h=>absurd h (by simp),by simp,fun i hi=>absurd hi (by simp)⟩ (fun b o e=>by cases e) (HP.o wX hC.o) (fun x hx=>⟨Nat.lt_of_lt_of_le (HK.o x hx).1 hC.o.size,(HK.o x hx).2⟩) hP.o (fun x hx=>absurd hx (by simp)) kE.o (fun x=>by have h1:=HC.o x;simp only[cI,List.countP_nil];omega) (Nat.le_refl _) (fun p hp=>absurd (List.length_pos_of_mem hp) (by have:=hF.o;omega)) (fun p hp=>absurd (List.length_pos_of_mem hp) (by have:=hF.o;omega));have KW:Z9 (Calls Tryz.prog 187 #[.pointer (some ⟨g,0,none⟩),.slice none 0 0,.slice A ps.length d] wX (Jx U g mb mf wX c _ _)):=Hd hL;obtain⟨x0,-,-,x3,-,-⟩:=HX.o _ hC.o;clear hL;go_wp2_with fail;refine KW.o.mono ?_;rintro e w3 ⟨rfl,hO,hM⟩;have hI:=Hd hO;have hE:Z9 (Ad (fun x=>x=mb\/x=mf) w w3):=Hd (hC.o.trans hM fun x h=>.inl h);clear hO hM KW x0 x3;obtain⟨-,-,-,-,-,x5⟩:=HX.o _ hE.o;go_wp2_with fail;clear x5
  go_loopw [76] (fun v wr=>(∃i:Nat,v=.int .i64 i)/\wr=w3) (fun _ _=>0)
  case atStart=>exact⟨⟨0,rfl⟩,rfl⟩
  case round=>
   obtain⟨⟨i,rfl⟩,hB⟩:=hrel;obtain rfl:w3=wr:=hB.symm;clear hB;have t1:decide ((i:Int)<(vs.length:Int))=false:=by have:=hJ.o;simp;omega
   have hN:¬ i<vs.length:=by have:=hJ.o;omega
   obtain⟨-,-,-,-,x4,-⟩:=HX.o _ hE.o;go_wp2_with fail;clear x4 t1 hN
   go_loopw [96] (fun v wr=>(∃i:Nat,v=.int .i64 i)/\wr=w3) (fun _ _=>0)
   case atStart=>exact⟨⟨0,rfl⟩,rfl⟩
   case round=>
    obtain⟨⟨i,rfl⟩,hB⟩:=hrel;obtain rfl:w3=wr:=hB.symm;clear hB;have t1:decide ((i:Int)<(fs.length:Int))=false:=(by have:=hG.o;simp;omega);have hN:¬ i<fs.length:=(by have:=hG.o;omega);have hV:=Hd (hI.o.same (fun _=>rfl) hW.o);clear t1;have t1:decide ((i:Int)<(fs.length:Int))=false:=(by have:=hG.o;simp;omega);go_wp2_with fail
    go_end0
    exact⟨rfl,hV.o,hE.o⟩
theorem Vz {k:Int}{s:Z8}{n:Int}{ps:List Ty}{fs:Bv}{vs:Bw}(h:Ai (.mk k s n ps fs vs)=true) (m:Nat) (h1:(Ak k).lo=(m:Int)) (h2:(Ak k).hi=(m:Int)):ps.length=m:=by
 have hf:=Dx h;unfold Ar at hf;rw[h1,h2]at hf;simp only[Bool.and_eq_true,decide_eq_true_eq,Bool.or_eq_true,beq_iff_eq]at hf;omega
theorem Jgg {α:Type}:∀ {l:List α},l.length=2->∃a b,l=[a,b]
 | [a,b],_=>⟨a,b,rfl⟩
theorem Jd2 {α:Type}:∀ {l:List α},l.length=4->∃a b c d,l=[a,b,c,d]
 | [a,b,c,d],_=>⟨a,b,c,d,rfl⟩
theorem Bh.caps {K:Nat->Prop}{w:World}{l:List Ty}{A:Option Addr}{c:Nat}(h:Bh K w l A c):l.length<=c:=by
 obtain⟨b,o,h1,-⟩:=h;exact h1.le
theorem Bh.one {K:Nat->Prop}{w:World}{p:Ty}{b o c:Nat}(h:Dm K w p b o) (hb:K b) (hc:1<=c):Bh K w [p] (some ⟨b,o,none⟩) c:=
 ⟨b,o,⟨hc,(by decide:1<=1000000000000000),(fun h=>by cases h),fun _=>⟨rfl,hb⟩⟩,fun i hi=>by
  have:i=0:=by simpa using hi
  subst this;simpa using h⟩
theorem Jbw {w:World}{nq:Nat}{s:Z8}(h:w.heap[nq]?=some (.cells #[.string s] 9 (0,0))):Cm w [s] (some ⟨nq,0,none⟩):=
 ⟨nq,0,fun _=>rfl,by simp,fun i hi=>by
  have:i=0:=by simpa using hi
  subst this;rw[Ch h];rfl⟩
theorem Jbq (w:World):Cm w [] none:=⟨0,0,fun h=>absurd h (by simp),by simp,fun i hi=>absurd hi (by simp)⟩
theorem M4 (x:Z8) (p:Ty):It x [p]=Bx x p:=by unfold It;simp
theorem Jd5 (x s:Z8):Dp [s] x=decide (s=x):=by unfold Dp;simp
theorem Uh (x s:Z8) (n:Int) (p0 p1:Ty):Bx x (.mk 20 s n [p0,p1] [] [])=(Bx x p0 || (!decide (s=x) && Bx x p1)):=by
 rw[Fd];have e1:Mh x []=false:=rfl;have e2:Ox x []=false:=rfl;have e3:Ff [] x=false:=rfl;rw[e1,e2,e3,Fl,Fl,Fl];simp[Dz]
theorem Jdm {K:Nat->Prop}{U:List Z8}{g mb mf:Nat}{w:World}{bp op tb tq d:Nat}{c:Z8->Nat}{S:Z8->Bool}{s:Z8}{p0 p1:Ty}(hX:∀wx,Ad (fun x=>x=mb\/x=mf) w wx->wx.cell? ⟨bp,op+1,none⟩=some (.string s)/\wx.cell? ⟨bp,op+3,none⟩=some (.slice (some ⟨tb,tq,none⟩) 2 d)) (h0:∀wx,Ad (fun x=>x=mb\/x=mf) w wx->Dm K wx p0 tb tq) (h1:∀wx,Ad (fun x=>x=mb\/x=mf) w wx->Dm K wx p1 tb (tq+6)) (hL:K tb) (hd:2<=d)
  (hK:∀x,K x->x<w.heap.size/\x≠mb/\x≠mf) (hS:F3 U w g mb mf c S) (hs:s∈U/\s.size<=maxLen) (hQ:∀x∈Fp p0,x∈U) (hR:∀x∈Fp p1,x∈U) (hM:U.length<maxLen) (hc:∀x,c x+(1+Am p0+Am p1)*1000000000000002<=9000000000000000000) (hU:Ai p0=true/\Dy p0=true) (hV:Ai p1=true/\Dy p1=true) (i0:Nk p0) (i1:Nk p1) :
  Calls Tryz.prog 185 #[.pointer (some ⟨g,0,none⟩),.pointer (some ⟨bp,op,none⟩),.int .i64 1] w (Jx U g mb mf w c S fun x=>Bx x p0 || (!decide (s=x) && Bx x p1)):=by
 have HX:=Hd hX;have HK:=Hd hK;have kH:=Hd hM;have kG:=Hd hs;have kD:=Hd hS.lt;have kC:=Hd hL;have kA:=Hd h1;have HD:=Hd hd;have hD:Z9 (∀x,c x+1<=9000000000000000000 - (Am p0+Am p1)*1000000000000002/\(Am p0+Am p1)*1000000000000002<=9000000000000000000):=Hd fun x=>by
  have h:=hc x;rw[Nat.add_mul,Nat.add_mul]at h;rw[Nat.add_mul];omega
 have hJ:=Hd (And.intro hR (And.intro hV i1));have KW:=Hd (Et (N:=[]) (AN:=none) (cN:=0) (ps:=[p0]) (B:=9000000000000000000 - (Am p0+Am p1)*1000000000000002) (Jbq w) (fun b o e=>by cases e) (Bh.one (c:=d) (h0 w (Ad.refl _ _)) hL (by omega)) hK hS (fun x hx=>absurd hx (by simp)) hM (fun x=>by have h:=hD.o x;simp only[cI,List.countP_nil];omega) (Nat.sub_le _ _) (fun p hp=>by
  obtain rfl:p=p0:=by simpa using hp
  refine⟨hQ,hU,?_⟩;have h:=(hD.o s).2;rw[Nat.add_mul]at h ⊢;omega) (fun p hp=>by obtain rfl:p=p0:=(by simpa using hp);exact i0))
 have j1:(1:Int)<=2:=by decide
 have kJ:min (1:Int) 2=1:=by decide
 have kL:¬ d=1:=by omega
 have j2:(2:Int)<=(d:Int):=by omega
 have j3:(1:Int)<=(d:Int):=by omega
 obtain⟨-,x3⟩:=hX w (Ad.refl _ _);clear hX h0 h1 hL hd hK hS hs hQ hR hM hc hU hV i0 i1;go_enter Tryz.func185,Tryz.ntmps185;go_wp2_with fail;refine KW.o.mono ?_;rintro e w3 ⟨rfl,hW,hB⟩;have kK:=Hd hB;have hH:=Hd (hB.then (Below.refl w3.heap.size w3).drew);obtain⟨nq,hN⟩:∃x,x=w3.heap.size:=⟨_,rfl⟩;obtain⟨wq,hG⟩:∃x,x=(w3.alloc (.cells #[.string s] 9)).drew:=⟨_,rfl⟩;have hF:Below w3.heap.size w3 wq:=by rw[hG];exact ((Below.refl w3.heap.size w3).alloc (Nat.le_refl _) _).drew
 have hZ:wq.heap[nq]?=some (.cells #[.string s] 9 (0,0)):=by rw[hG,hN];exact heap_alloc_new w3 _
 have hE:=Hd (hB.then hF);have kB:=Hd hF;have kE:Z9 (nq≠mb/\nq≠mf):=Hd (by have h1:=kD.o;have h2:=hB.size;omega);have hC:=hW.later hF;have hP:=Hd (Et (N:=[s]) (AN:=some ⟨nq,0,none⟩) (cN:=1) (ps:=[p1]) (B:=9000000000000000000 - (Am p0+Am p1)*1000000000000002) (Jbw hZ) (fun b o e=>by injection e with e;injection e with e;subst e;exact kE.o) (Bh.one (c:=d - 1) (kA.o wq hE.o) kC.o (by have:=HD.o;omega)) (fun x hx=>⟨Nat.lt_of_lt_of_le (HK.o x hx).1 hE.o.size,(HK.o x hx).2⟩) hC (fun x hx=>by obtain rfl:x=s:=(by simpa using hx);exact kG.o) kH.o (fun x=>by have h:=hD.o x;have h2:=Vu [s] x;simp only[List.length_singleton]at h2;omega) (Nat.sub_le _ _) (fun p hp=>by
  obtain rfl:p=p1:=by simpa using hp
  refine⟨hJ.o.1,hJ.o.2.1,?_⟩;have h:=(hD.o s).2;rw[Nat.add_mul]at h ⊢;omega) (fun p hp=>by obtain rfl:p=p1:=(by simpa using hp);exact hJ.o.2.2))
 have kI:=Hd hG;have hI:=Hd hN;clear hW hB KW x3 hN hG hF hZ hC;go_upto_region 2 with fail
 refine wp_region_held_drew (S:=(fun w'=>w'.cell? ⟨bp,op+1,none⟩=some (.string s)/\w'.cell? ⟨bp,op+3,none⟩=some (.slice (some ⟨tb,tq,none⟩) 2 d))) (by kernel_rfl) (HX.o _ hH.o) (fun hA=>?_);refine Ab.s [0,1,2,3,4,6,7,8,9,10,11] ?_
 iterate 11 (refine Ab.k (so rfl) hA ?_;try simp only[Act.put,Az,Ba,Bb])
 refine Ab.d ?_;refine wpAnyH_ready (rs:=[5]) (by kernel_rfl) (by simp) ?_;refine AllReadyH.cons (sd (some 26) rfl) (fun Kx hK=>?_) AllReadyH.nil;go_simp;rw[<-kI.o,<-hI.o];refine hK.out _ _ (HX.o _ hE.o) (fun hA=>?_);clear hK Kx;try simp only[Act.put,Az,Ba,Bb]
 refine wpAnyH_ready (rs:=[12]) (by kernel_rfl) (by simp) ?_;refine AllReadyH.cons (sd (some 33) rfl) (fun Kx hK=>?_) AllReadyH.nil;go_simp;refine hP.o.mono ?_;rintro e w4 ⟨rfl,hY,hT⟩;have hO:Z9 (Ad (fun x=>x=mb\/x=mf) w w4):=Hd (hE.o.trans hT fun x h=>.inl h);have kF:Z9 (F3 U w4 g mb mf c (fun x=>S x || (decide (c x=0) && (Bx x p0 || (!decide (s=x) && Bx x p1))))):=Hd (hY.same (fun _=>rfl) fun x=>by
  dsimp only;rw[M4,M4,Jd5];have e:Dp [] x=false:=rfl;rw[e];generalize decide (c x=0)=d1;generalize Bx x p0=d2;generalize Bx x p1=d3;generalize decide (s=x)=d4
  cases S x <;> cases d1 <;> cases d2 <;> cases d3 <;> cases d4 <;> rfl)
 clear hY hT hP;go_wp2_with fail;refine hK.out _ _ (HX.o _ hO.o) (fun hA=>?_);clear hK Kx;try simp only[Act.put,Az,Ba,Bb]
 refine wpAnyH_done (by kernel_rfl) ?_ _;clear hA;go_wp2_with fail
 go_end0
 exact⟨rfl,kF.o,hO.o⟩
theorem To {s:Z8}{n:Int}{ps:List Ty}{fs:Bv}{vs:Bw}(hp:∀p∈ps,Nk p):Nk (.mk 20 s n ps fs vs):=by
 intro K U g mb mf w bp op c S ha hM hK hS hU hI hc hD hP;obtain⟨A,d,A2,d2,A3,d3,HX,HP,HF,HV,HT⟩:=Rc ha hM hK;obtain⟨l1,l2,-,-⟩:=Ew hD;have hN:ps.length=2:=Vz hD 2 rfl rfl;have e2:fs=[]:=List.eq_nil_of_length_eq_zero (l1 (by decide));have e3:vs=[]:=List.eq_nil_of_length_eq_zero (l2 (by decide));obtain⟨p0,p1,rfl⟩:=Jgg hN;subst e2;subst e3;obtain⟨-,-,v3,-⟩:=Gc hP;have hB:=fun wx (hx:Ad (fun x=>x=mb\/x=mf) w wx)=>(HP.o wx hx).at (by simp);obtain⟨tb,tq,hA,hH,-⟩:=hB w (Ad.refl _ _);subst hA;have hd:2<=d:=(HP.o w (Ad.refl _ _)).caps;have hC:∀wx,Ad (fun x=>x=mb\/x=mf) w wx->Dm K wx p0 tb tq/\Dm K wx p1 tb (tq+6):=fun wx hx=>by
  obtain⟨tb',tq',hA',-,hJ⟩:=hB wx hx;injection hA' with hA'
  injection hA' with e1 e2
  subst e1;subst e2;exact⟨by simpa using hJ 0 (by simp),by simpa using hJ 1 (by simp)⟩
 have hE:Am (Ty.mk 20 s n [p0,p1] [] [])=1+Am p0+Am p1:=by
  rw[B0,Cj,Cj,Gz];have e1:Bm []=0:=rfl;have e2:Br []=0:=rfl;rw[e1,e2];simp only[Nat.add_zero,Nat.add_assoc]
 have m0:p0∈[p0,p1]:=by simp
 have m1:p1∈[p0,p1]:=by simp
 have KC:=Hd (Jdm (c:=c) (fun wx hx=>⟨(HX.o wx hx).2.1,(HX.o wx hx).2.2.2.1⟩) (fun wx hx=>(hC wx hx).1) (fun wx hx=>(hC wx hx).2) hH hd hK hS ⟨hU s I5,Nat.le_trans HT.o (by decide)⟩ (fun x hx=>hU x (Kd m0 hx)) (fun x hx=>hU x (Kd m1 hx)) hI (fun x=>by
  rw[<-hE];exact hc x) ⟨D1 hD p0 m0,v3 p0 m0⟩ ⟨D1 hD p1 m1,v3 p1 m1⟩ (hp p0 m0) (hp p1 m1))
 obtain⟨x0,-,-,-,-,-⟩:=HX.o _ (Ad.refl _ _);clear ha hM hK hS hU hI hc hD hP l1 l2 hN v3 hB hH hd hC m0 m1 hp;go_enter Tryz.func153,Tryz.ntmps153;go_wp2_with fail;refine KC.o.mono ?_;rintro e w3 ⟨rfl,hO,hL⟩;have hG:Z9 (F3 U w3 g mb mf c (fun x=>S x || (decide (c x=0) && Bx x (.mk 20 s n [p0,p1] [] [])))):=Hd (hO.same (fun _=>rfl) fun x=>by rw[Uh]);have hF:=Hd hL;clear hO hL KC x0;go_wp2_with fail;first
 | (go_end0;exact⟨rfl,hG.o,hF.o⟩)
 | exact bodyPost_ret (v:=.tuple #[]) (by simp[results,Tryz.results153,go_sem]) rfl ⟨rfl,hG.o,hF.o⟩
def J9:Ty->List Z8
 | .mk k t _ ps fs vs=>(if k=16 then [t] else [])++((vs.attach.map fun ⟨v,_⟩=>(v.2.attach.map fun ⟨b,_⟩=>J9 b).flatten).flatten++((ps.attach.map fun ⟨p,_⟩=>J9 p).flatten++(fs.attach.map fun ⟨f,_⟩=>J9 f.2.2).flatten))
termination_by t=>SizeOf.sizeOf t
decreasing_by
 ·exact Fy ‹_› ‹_›
 ·exact D8 ‹_›
 ·exact E2 ‹_›
theorem Ur (k t n ps fs vs):J9 (.mk k t n ps fs vs)=(if k=16 then [t] else [])++((vs.map fun v=>(v.2.map J9).flatten).flatten++((ps.map J9).flatten++(fs.map fun f=>J9 f.2.2).flatten)):=by
 rw[J9];have h1:(ps.attach.map fun p=>J9 p.1).flatten=(ps.map J9).flatten:=Df J9 ps;have h2:(fs.attach.map fun f=>J9 f.1.2.2).flatten=(fs.map fun f=>J9 f.2.2).flatten:=Df (fun f:Z8×Int×Ty=>J9 f.2.2) fs;have h3:(vs.attach.map fun v=>(v.1.2.attach.map fun b=>J9 b.1).flatten).flatten=(vs.map fun v=>(v.2.map J9).flatten).flatten:=by
  have e:(fun v:{v // v∈vs}=>(v.1.2.attach.map fun b=>J9 b.1).flatten)=fun v:{v // v∈vs}=>(v.1.2.map J9).flatten:=by
   funext v;exact Df J9 v.1.2
  rw[e];exact Df (fun v:Z8×List Ty=>(v.2.map J9).flatten) vs
 rw[h1,h2,h3]
theorem Gp {α β:Type}{f:α->List β}{g:α->Nat}:∀ {l:List α},(∀a∈l,(f a).length<=g a)->(l.map f).flatten.length<=(l.map g).sum
 | [],_=>Nat.le_refl _
 | a :: l,h=>by
  rw[List.map_cons,List.flatten_cons,List.length_append,List.map_cons,List.sum_cons];exact Nat.add_le_add (h a List.mem_cons_self) (Gp fun b hb=>h b (List.mem_cons_of_mem _ hb))
theorem Jf6 (t:Ty):(J9 t).length<=Am t:=by
 refine Ty.ind (C:=fun t=>(J9 t).length<=Am t) (fun k t n ps fs vs hp hf hv=>?_) t;rw[Ur,B0,List.length_append,List.length_append,List.length_append];have h1:(if k=16 then [t] else []).length<=1:=by split <;> simp
 have h2:((ps.map J9).flatten).length<=Au ps:=Gp hp;have h3:((fs.map fun f=>J9 f.2.2).flatten).length<=Bm fs:=Gp hf;have h4:((vs.map fun v=>(v.2.map J9).flatten).flatten).length<=Br vs:=Gp fun v hA=>Gp (hv v hA);omega
theorem Sr (x:Z8) (t:Ty):Bx x t=true->x∈J9 t:=by
 refine Ty.ind (C:=fun t=>Bx x t=true->x∈J9 t) (fun k t n ps fs vs hp hf hv h=>?_) t;rw[Ur];rw[Fd]at h;simp only[Bool.or_eq_true,Bool.and_eq_true]at h;have hD:∀(l:List Ty) (j:Nat) (cut:Nat->Bool),Fl x cut j l=true->∃p∈l,Bx x p=true:=by
  intro l
  induction l with
  | nil=>intro j cut h;rw[Fl]at h;cases h
  | cons a l ih=>
   intro j cut h;rw[Fl,Bool.or_eq_true,Bool.and_eq_true]at h;rcases h with h|h
   ·exact⟨a,List.mem_cons_self,h.2⟩
   ·obtain⟨p,h1,h2⟩:=ih _ _ h;exact⟨p,List.mem_cons_of_mem _ h1,h2⟩
 rcases h with h|⟨-,h|h|h⟩
 ·rw[beq_iff_eq,decide_eq_true_eq]at h;rw[if_pos h.1,h.2];exact List.mem_append_left _ (List.mem_singleton.2 rfl)
 ·refine List.mem_append_right _ (List.mem_append_left _ ?_);obtain⟨v,hC,h⟩:=List.any_eq_true.1 h;obtain⟨b,hb,h⟩:=List.any_eq_true.1 h;exact List.mem_flatten.2 ⟨_,List.mem_map_of_mem hC,List.mem_flatten.2 ⟨_,List.mem_map_of_mem hb,hv v hC b hb h⟩⟩
 ·refine List.mem_append_right _ (List.mem_append_right _ (List.mem_append_left _ ?_));obtain⟨p,hB,h⟩:=hD _ _ _ h;exact List.mem_flatten.2 ⟨_,List.mem_map_of_mem hB,hp p hB h⟩
 ·refine List.mem_append_right _ (List.mem_append_right _ (List.mem_append_right _ ?_));obtain⟨f,hA,h⟩:=List.any_eq_true.1 h;exact List.mem_flatten.2 ⟨_,List.mem_map_of_mem hA,hf f hA h⟩
theorem Jfy {N:Nat}(t:Ty):Dy t=true->Am t<=N->(Fp t).length<=Am t*(3518437208781+N):=by
 refine Ty.ind (C:=fun t=>Dy t=true->Am t<=N->(Fp t).length<=Am t*(3518437208781+N)) (fun k t n ps fs vs hp hf hv hA hN=>?_) t;obtain⟨v1,v2,v3,v4⟩:=Gc hA;have hm:Au ps<=N/\(∀p∈ps,Am p<=N)/\(∀f∈fs,Am f.2.2<=N)/\∀v∈vs,∀b∈v.2,Am b<=N:=by
  rw[B0]at hN;refine⟨by omega,fun p h=>?_,fun f h=>?_,fun v h b hb=>?_⟩
  ·have:=Hj h;omega
  ·have:=I8 h;omega
  ·have h1:=Hj hb;have h2:=I9 h;omega
 rw[Jz,B0];obtain⟨M,hM⟩:∃M,M=3518437208781+N:=⟨_,rfl⟩;rw[<-hM]at hp hf hv ⊢;have hC:(E5 ps).length<=N:=by
  unfold E5
  match ps,hm with
  | [],_=>exact Nat.zero_le _
  | [a],_=>exact Nat.zero_le _
  | a :: b :: l,hm=>exact Nat.le_trans (Ey b) (hm.2.1 b (by simp))
 have s1:∀ {α:Type} (l:List α) (g:α->Nat),(l.map fun a=>g a*M).sum=(l.map g).sum*M:=by
  intro α l g
  induction l with
  | nil=>simp
  | cons a l ih=>rw[List.map_cons,List.sum_cons,List.map_cons,List.sum_cons,ih,Nat.add_mul]
 have h2:((ps.map Fp).flatten).length<=Au ps*M:=by
  have h:=Gp (f:=Fp) (g:=fun p=>Am p*M) (l:=ps) fun p h=>hp p h (v3 p h) (hm.2.1 p h);rw[s1]at h;exact h
 have h3:((fs.map fun f=>Fp f.2.2).flatten).length<=Bm fs*M:=by
  have h:=Gp (f:=fun f:Z8×Int×Ty=>Fp f.2.2) (g:=fun f=>Am f.2.2*M) (l:=fs) fun f h=>hf f h (v4 f h) (hm.2.2.1 f h);rw[s1 fs fun f=>Am f.2.2]at h;exact h
 have h4:((vs.map fun v=>(v.2.map Fp).flatten).flatten).length<=Br vs*M:=by
  have h:=Gp (f:=fun v:Z8×List Ty=>(v.2.map Fp).flatten) (g:=fun v=>Au v.2*M) (l:=vs) fun v h=>by
   have h5:=Gp (f:=Fp) (g:=fun p=>Am p*M) (l:=v.2) fun b hb=>hv v h b hb (v2 v h b hb) (hm.2.2.2 v h b hb);rw[s1]at h5;exact h5
  rw[s1 vs fun v=>Au v.2]at h;exact h
 simp only[List.length_cons,List.length_append,List.length_map];rw[Nat.add_mul,Nat.add_mul,Nat.add_mul,Nat.one_mul];have hB:1+vs.length+(E5 ps).length<=M:=by omega
 generalize Au ps*M=a1 at h2 ⊢;generalize Bm fs*M=a2 at h3 ⊢;generalize Br vs*M=a3 at h4 ⊢;omega
theorem P2 {α:Type} [DecidableEq α]:∀ {l m:List α},l.Nodup->(∀x∈l,x∈m)->l.length<=m.length
 | [],_,_,_=>Nat.zero_le _
 | a :: l,m,h,hs=>by
  have h1:=List.nodup_cons.1 h;have ha:=hs a List.mem_cons_self;have h2:=P2 (l:=l) (m:=m.erase a) h1.2 fun x hx=>(List.mem_erase_of_ne (fun e=>by subst e;exact h1.1 hx)).2 (hs x (List.mem_cons_of_mem _ hx));rw[List.length_erase_of_mem ha]at h2;have:=List.length_pos_of_mem ha;rw[List.length_cons];omega
theorem Lz {x:Z8}{u:Ty}{cut:Nat->Bool}(h:∀i,cut i=true):∀ {l:List Ty}{j:Nat},Er x u cut j l=l
 | [],_=>rfl
 | p :: l,j=>by rw[Er,if_pos (h j),Lz h]
theorem Es (x:Z8) (u:Ty) (t:Ty):Ai t=true->Bx x t=false->Bg x u t=t:=by
 refine Ty.ind (C:=fun t=>Ai t=true->Bx x t=false->Bg x u t=t) (fun k t n ps fs vs hp hf hv hB hC=>?_) t;rw[Fd,Bool.or_eq_false_iff]at hC;have hG:∀p∈ps,Bx x p=false->Bg x u p=p:=fun p hA=>hp p hA (D1 hB p hA);rw[Fb,if_neg (by rw[hC.1];decide)];by_cases hk:k=15
 ·subst hk;have e:=G3 hB rfl;have l1:=Ew hB;have e3:vs=[]:=List.eq_nil_of_length_eq_zero (l1.2.1 (by decide));subst e3;rw[if_pos (show ((15:Int) == 15)=true from rfl)];have h2:Fl x (fun i=>Dz 15 t n ps i x) 0 ps=false:=by
   have:=hC.2;simp only[Ff,List.any_nil,Bool.not_false,Bool.true_and,Bool.or_eq_false_iff]at this;exact this.2.1
  have h3:∀(l:List Ty) (j:Nat),Fl x (fun i=>Dz 15 t n ps i x) j l=false->∀p∈l,Bx x p=false:=by
   intro l
   induction l with
   | nil=>intro j _ p h;cases h
   | cons a l ih=>
    intro j h p hA;rw[Fl,Bool.or_eq_false_iff]at h;rcases List.mem_cons.1 hA with rfl|hA
    ·have h4:=h.1;simpa [Dz] using h4
    ·exact ih (j+1) h.2 p hA
  rw[List.map_congr_left (g:=id) fun p hA=>hG p hA (h3 ps 0 h2 p hA),List.map_id];exact e
 ·rw[if_neg (by simpa using hk)];have hI:∀f∈fs,Ai f.2.2=true:=Je (t:=.mk k t n ps fs vs) hB;have hH:=Kk hB;by_cases hi:Ff vs x=true
  ·have e2:fs=[]:=by
    refine List.eq_nil_of_length_eq_zero ((Ew hB).1 fun e=>?_);have h3:vs=[]:=List.eq_nil_of_length_eq_zero ((Ew hB).2.1 (by omega));rw[h3]at hi
    cases hi
   subst e2;have e3:(vs.map fun v=>(v.1,v.2.map fun b=>if Ff vs x=true then b else Bg x u b))=vs:=by
    refine (List.map_congr_left (g:=id) fun v _=>?_).trans (List.map_id _);simp[hi]
   rw[e3,Lz fun i=>by rw[hi];rfl];rfl
  ·have h2:=hC.2;rw[Bool.not_eq_true]at hi;simp only[hi,Bool.not_false,Bool.true_and,Bool.or_eq_false_iff]at h2;obtain⟨h4,h5,h6⟩:=h2;have e1:Er x u (fun i=>Ff vs x || Dz k t n ps i x) 0 ps=ps:=Ok hG (by simpa [hi] using h5);have e2:(fs.map fun f=>(f.1,f.2.1,Bg x u f.2.2))=fs:=by
    refine (List.map_congr_left (g:=id) fun f hE=>?_).trans (List.map_id _);have h7:Bx x f.2.2=false:=by
     rw[Bool.eq_false_iff];intro h;rw[show Ox x fs=true from List.any_eq_true.2 ⟨f,hE,h⟩]at h6
     cases h6
    rw[hf f hE (hI f hE) h7];rfl
   have e3:(vs.map fun v=>(v.1,v.2.map fun b=>if Ff vs x=true then b else Bg x u b))=vs:=by
    refine (List.map_congr_left (g:=id) fun v hF=>?_).trans (List.map_id _);have h8:(v.2.map fun b=>if Ff vs x=true then b else Bg x u b)=v.2:=by
     refine (List.map_congr_left (g:=id) fun b hD=>?_).trans (List.map_id _);have h7:Bx x b=false:=by
      rw[Bool.eq_false_iff];intro h;rw[show Mh x vs=true from List.any_eq_true.2 ⟨v,hF,List.any_eq_true.2 ⟨b,hD,h⟩⟩]at h4
      cases h4
     rw[if_neg (by rw[hi];decide),hv v hF b hD (hH v hF b hD) h7];rfl
    rw[h8];rfl
   rw[e1,e2,e3]
def Vf (x:Z8):Ty:=.mk 16 x 0 [] [] []
theorem Ja0 {x:Z8}{n:Int}{ps:List Ty}{fs:Bv}{vs:Bw}(h:Ai (.mk 16 x n ps fs vs)=true):n=0/\ps=[]/\fs=[]/\vs=[]:=by
 obtain⟨a,b,c,-,e⟩:=Le (Dx h) rfl rfl rfl;exact⟨e rfl,List.eq_nil_of_length_eq_zero a,List.eq_nil_of_length_eq_zero b,List.eq_nil_of_length_eq_zero c⟩
theorem Ll {x:Z8}{u:Ty}{cut:Nat->Bool}:∀ {l:List Ty}{j:Nat}{z:Ty},z∈Er x u cut j l->∃p∈l,z=p\/z=Bg x u p
 | [],_,_,h=>by cases h
 | p :: l,j,z,h=>by
  rw[Er]at h;rcases List.mem_cons.1 h with h|h
  ·refine⟨p,List.mem_cons_self,?_⟩;by_cases hc:cut j=true
   ·rw[if_pos hc]at h;exact .inl h
   ·rw[if_neg hc]at h;exact .inr h
  ·obtain⟨q,hq,he⟩:=Ll h;exact⟨q,List.mem_cons_of_mem _ hq,he⟩
theorem Jb4 {k:Int}{t:Z8}{n:Int}{ps ps':List Ty}{fo vo:Bool}(hA:k≠15) (hB:k≠23):Bq k t n ps' fo vo=Bq k t n ps fo vo:=by
 unfold Bq;simp only[if_neg hA,if_neg hB]
theorem Jaz {x:Z8}{u:Ty}(hu:Ai u=true) (t:Ty):Ai t=true->Ai (Bg x u t)=true:=by
 refine Ty.ind (C:=fun t=>Ai t=true->Ai (Bg x u t)=true) (fun k t n ps fs vs hp hf hv hB=>?_) t;rw[Fb];by_cases h1:(k == 16 && decide (t=x))=true
 ·rw[if_pos h1];exact hu
 ·rw[if_neg h1];by_cases h2:(k == 15)=true
  ·rw[if_pos h2];exact Nx fun z hz=>by obtain⟨p,hA,rfl⟩:=List.mem_map.1 hz;exact hp p hA (D1 hB p hA)
  ·rw[if_neg h2];have hG:k≠15:=fun e=>h2 (by rw[e];rfl);have h:=hB;rw[Aw,Bool.and_eq_true,Bool.and_eq_true,Bool.and_eq_true]at h ⊢;obtain⟨⟨⟨a,b⟩,c⟩,d⟩:=h;have hz:∀z∈Er x u (fun i=>Ff vs x || Dz k t n ps i x) 0 ps,Ai z=true:=fun z hz=>by
    obtain⟨p,hA,rfl|rfl⟩:=Ll hz
    ·exact D1 hB _ hA
    ·exact hp p hA (D1 hB p hA)
   refine⟨⟨⟨a,?_⟩,?_⟩,List.all_eq_true.2 hz⟩
   ·rw[P7,List.length_map,List.length_map];exact b
   ·have ef:Bn (fs.map fun f=>(f.1,f.2.1,Bg x u f.2.2)) Ai=Bn fs Ai:=by
     unfold Bn;rw[List.map_map];refine List.map_congr_left fun f hD=>?_;show (f.1,f.2.1,Ai (Bg x u f.2.2))=_;have h3:=Je (t:=.mk k t n ps fs vs) hB f hD;rw[hf f hD h3,h3]
    have ev:Dh (vs.map fun v=>(v.1,v.2.map fun b=>if Ff vs x=true then b else Bg x u b)) Ai=Dh vs Ai:=by
     unfold Dh;rw[List.map_map];refine List.map_congr_left fun v hE=>?_;show (v.1,(v.2.map fun b=>if Ff vs x=true then b else Bg x u b).map Ai)=_;rw[List.map_map];refine congrArg (Prod.mk v.1) (List.map_congr_left fun b hb=>?_);have h3:=Kk hB v hE b hb;show Ai (if Ff vs x=true then b else Bg x u b)=Ai b;by_cases hi:Ff vs x=true
     ·rw[if_pos hi]
     ·rw[if_neg hi,hv v hE b hb h3,h3]
    rw[ef,ev];by_cases hC:k=23
    ·subst hC;have e:∀(l:List Ty) (fo vo:Bool),Bq 23 t n l fo vo=l.all fun p=>p.k == 13:=fun l fo vo=>by unfold Bq;simp
     rw[e]at c ⊢;rw[List.all_eq_true]at c ⊢;intro z hH;obtain⟨p,hA,rfl|rfl⟩:=Ll hH
     ·exact c _ hA
     ·have hF:p.k=13:=(by have:=c p hA;simpa using this);obtain⟨k',s',n',ps',fs',vs'⟩:=p;obtain rfl:k'=13:=hF;rw[Fb,if_neg (by simp),if_neg (by decide)];rfl
    ·rw[Jb4 hG hC];exact c
theorem sub_self (x:Z8) (t:Ty):Ai t=true->Bg x (Vf x) t=t:=by
 refine Ty.ind (C:=fun t=>Ai t=true->Bg x (Vf x) t=t) (fun k t n ps fs vs hp hf hv hA=>?_) t;rw[Fb];by_cases h1:(k == 16 && decide (t=x))=true
 ·rw[if_pos h1];rw[Bool.and_eq_true,beq_iff_eq,decide_eq_true_eq]at h1;obtain⟨rfl,rfl⟩:=h1;obtain⟨rfl,rfl,rfl,rfl⟩:=Ja0 hA;rfl
 ·rw[if_neg h1];have hD:∀p∈ps,Bg x (Vf x) p=p:=fun p hC=>hp p hC (D1 hA p hC);by_cases h2:(k == 15)=true
  ·rw[if_pos h2];rw[beq_iff_eq]at h2;subst h2;rw[List.map_congr_left (g:=id) hD,List.map_id];exact G3 hA rfl
  ·rw[if_neg h2];have e1:∀(l:List Ty) (j:Nat) (cut:Nat->Bool),(∀p∈l,Bg x (Vf x) p=p)->Er x (Vf x) cut j l=l:=by
    intro l
    induction l with
    | nil=>intro _ _ _;rfl
    | cons a l ih=>
     intro j cut h;rw[Er,ih (j+1) cut fun p hp=>h p (List.mem_cons_of_mem _ hp),h a List.mem_cons_self];simp
   rw[e1 ps 0 _ hD];have e2:(fs.map fun f=>(f.1,f.2.1,Bg x (Vf x) f.2.2))=fs:=(List.map_congr_left (g:=id) fun f hB=>by rw[hf f hB (Je (t:=.mk k t n ps fs vs) hA f hB)];rfl).trans (List.map_id _);have e3:(vs.map fun v=>(v.1,v.2.map fun b=>if Ff vs x=true then b else Bg x (Vf x) b))=vs:=(List.map_congr_left (g:=id) fun v hE=>by
    rw[List.map_congr_left (g:=id) fun b hb=>by rw[hv v hE b hb (Kk hA v hE b hb)];simp,List.map_id];rfl).trans (List.map_id _)
   rw[e2,e3]
