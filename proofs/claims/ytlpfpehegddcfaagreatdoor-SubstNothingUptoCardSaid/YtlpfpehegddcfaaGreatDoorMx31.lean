import Derived.Test.YtlpfpehegddcfaaGreatDoorMx28
import Derived.Test.YtlpfpehegddcfaaGreatDoorMx29
namespace Go.Proofs.YtlpfpehegddcfaaGreatDoor
set_option maxRecDepth 100000
set_option maxHeartbeats 64000000
open Go.RowKit
theorem Mw {k:Int}{x:Z8}:∀ {l:List Ty}{j:Nat},x∈Cq k j l->∃p∈l,x∈Bi p
 | p :: l,j,h=>by
  rw[Cq,List.mem_append]at h;rcases h with h|h
  ·by_cases e:(k == 21 && j == 1)=true
   ·rw[if_pos e]at h;cases h
   ·rw[if_neg e]at h;exact⟨p,List.mem_cons_self,h⟩
  ·obtain⟨q,hq,hx⟩:=Mw h;exact⟨q,List.mem_cons_of_mem _ hq,hx⟩
theorem Tl {K:Nat->Prop}{w:World}(t:Ty):∀cs,Aw K w t cs->∀x∈Bi t,x.size<=1000000000000000:=by
 refine Ty.ind (C:=fun t=>∀cs,Aw K w t cs->∀x∈Bi t,x.size<=1000000000000000) (fun k s n ps fs vs hp hf _ cs hr x hx=>?_) t;obtain⟨A,c,B,d,C,e,-,ht,hL,hF,-⟩:=hr.inv;rw[Gf]at hx;by_cases hk:k=22
 ·rw[if_pos hk]at hx;obtain rfl:x=s:=by simpa using hx
  exact ht
 ·rw[if_neg hk,List.mem_append]at hx;rcases hx with hx|hx
  ·obtain⟨p,hE,hx⟩:=Mw hx;obtain⟨i,hi,rfl⟩:=List.getElem_of_mem hE;obtain⟨b,o,-,-,hB⟩:=hL.at (Nat.lt_of_le_of_lt (Nat.zero_le i) hi);obtain⟨hA,-,hC⟩:=hB i hi;exact hp _ hE hA hC x hx
  ·unfold Dd at hx;obtain⟨l,hl,hx⟩:=List.mem_flatten.1 hx;obtain⟨f,hD,rfl⟩:=List.mem_map.1 hl;obtain⟨i,hi,rfl⟩:=List.getElem_of_mem hD;obtain⟨b,o,-,-,hB⟩:=hF.at (Nat.lt_of_le_of_lt (Nat.zero_le i) hi);obtain⟨-,-,-,hA,-,hC⟩:=hB i hi;exact hf _ hD hA hC x hx
theorem Xo (hI:L2) {s:Z8}{n:Int}{ps:List Ty}{fs:Bx}{vs:Bt}(hp:∀p∈ps,L6 p):L6 (.mk 21 s n ps fs vs):=by
 intro K U g mb mf w bp op c S ha hJ hK hS hU hO hc hL hZ;obtain⟨A,d,A2,d2,A3,d3,HX,HP,HF,HV,HT⟩:=P0 ha hJ hK;obtain⟨l1,l2,-,-⟩:=D5 hL;have hY:ps.length=4:=Lp hL 4 rfl rfl;have e2:fs=[]:=List.eq_nil_of_length_eq_zero (l1 (by decide));have e3:vs=[]:=List.eq_nil_of_length_eq_zero (l2 (by decide));obtain⟨p0,p1,p2,p3,rfl⟩:=Jb1 hY;subst e2;subst e3;obtain⟨-,-,v3,-⟩:=Fz hZ;have hC:=fun wx (hx:Ad (fun x=>x=mb\/x=mf) w wx)=>(HP.o wx hx).at (by simp);obtain⟨tb,tq,hA,hN,-⟩:=hC w (Ad.refl _ _);subst hA;have hd:4<=d:=(HP.o w (Ad.refl _ _)).caps;have hB:∀wx,Ad (fun x=>x=mb\/x=mf) w wx->De K wx p0 tb tq/\De K wx p1 tb (tq+6)/\De K wx p2 tb (tq+12)/\De K wx p3 tb (tq+18):=fun wx hx=>by
  obtain⟨tb',tq',hA',-,hP⟩:=hC wx hx;injection hA' with hA'
  injection hA' with e1 e2
  subst e1;subst e2;exact⟨by simpa using hP 0 (by simp),by simpa using hP 1 (by simp),by simpa using hP 2 (by simp),by simpa using hP 3 (by simp)⟩
 have hD:Am (Ty.mk 21 s n [p0,p1,p2,p3] [] [])=1+(Am p0+(Am p1+(Am p2+Am p3))):=by
  rw[Bu,Cl,Cl,Cl,Cl,G2];have e1:Bm []=0:=rfl;have e2:Bl []=0:=rfl;rw[e1,e2];simp only[Nat.add_zero]
 have hT:∀x∈Bi p1,x∈U/\x.size<=maxLen:=fun x hx=>by
  obtain⟨kD,-,kE⟩:=(hB w (Ad.refl _ _)).2.1;exact⟨hU x (Qd (by exact hx)),Nat.le_trans (Tl p1 kD kE x hx) (by decide)⟩
 have hE:∀p∈[p0,p1,p2,p3],(∀x∈Ed p,x∈U)/\(Aj p=true/\Dk p=true)/\L6 p:=fun p hV=>⟨fun x hx=>hU x (Jk hV hx),⟨D9 hL p hV,v3 p hV⟩,hp p hV⟩;have hR:Am p1<=1000000:=by
  have h:=hc s;rw[hD]at h;have h3:(1+(Am p0+(Am p1+(Am p2+Am p3))))<=1000000:=by
   refine Classical.byContradiction fun h4=>?_;have h5:1000001*1000000000000002<=_:=Nat.mul_le_mul_right 1000000000000002 (Nat.succ_le_of_lt (Nat.lt_of_not_le h4));omega
  omega
 have hQ:∀x,c x+(1+(Am p0+(Am p1+(Am p2+Am p3))))*1000000000000002<=9000000000000000000:=fun x=>by rw[<-hD];exact hc x
 have i0:=hE p0 (by simp);have i1:=hE p1 (by simp);have i2:=hE p2 (by simp);have i3:=hE p3 (by simp);have hW:=Nat.le_trans HT.o (by decide:1000000000000000<=maxLen);obtain⟨x0,-,-,-,-,-⟩:=HX.o _ (Ad.refl _ _);obtain⟨k4,s4,n4,kB,kA,kC⟩:=p1;by_cases hX:n=1
 ·subst hX;have KC:=Hd (Jdl hI (c:=c) (fun wx hx=>⟨(HX.o wx hx).2.1,(HX.o wx hx).2.2.1,(HX.o wx hx).2.2.2.1⟩) hB hN hd hJ hK hS ⟨hU s Ij,hW⟩ hO hT hR hQ i0 i1 i2 i3);clear ha hJ hK hS hU hO hc hL hZ l1 l2 hY v3 hC hN hd hB hp hD hT hE hR hQ i0 i1 i2 i3 hW;go_enter Tryz.func153,Tryz.ntmps153;go_wp2_with fail;refine KC.o.mono ?_;rintro e w3 ⟨rfl,hM,hH⟩;have hG:Z9 (Fp U w3 g mb mf c (fun x=>S x || (decide (c x=0) && Bp x (.mk 21 s 1 [p0,.mk k4 s4 n4 kB kA kC,p2,p3] [] [])))):=Hd hM;have hF:=Hd hH;clear hM hH KC x0;go_wp2_with fail;first
  | (go_end0;exact⟨rfl,hG.o,hF.o⟩)
  | exact bodyPost_ret (v:=.tuple #[]) (by simp[results,Tryz.results153,go_sem]) rfl ⟨rfl,hG.o,hF.o⟩
 ·have KC:=Hd (Jdk hI (c:=c) hX (fun wx hx=>⟨(HX.o wx hx).2.1,(HX.o wx hx).2.2.1,(HX.o wx hx).2.2.2.1⟩) hB hN hd hJ hK hS ⟨hU s Ij,hW⟩ hO hT hR hQ i0 i1 i2 i3);clear ha hJ hK hS hU hO hc hL hZ l1 l2 hY v3 hC hN hd hB hp hD hT hE hR hQ i0 i1 i2 i3 hW hX;go_enter Tryz.func153,Tryz.ntmps153;go_wp2_with fail;refine KC.o.mono ?_;rintro e w3 ⟨rfl,hM,hH⟩;have hG:Z9 (Fp U w3 g mb mf c (fun x=>S x || (decide (c x=0) && Bp x (.mk 21 s n [p0,.mk k4 s4 n4 kB kA kC,p2,p3] [] [])))):=Hd hM;have hF:=Hd hH;clear hM hH KC x0;go_wp2_with fail;first
  | (go_end0;exact⟨rfl,hG.o,hF.o⟩)
  | exact bodyPost_ret (v:=.tuple #[]) (by simp[results,Tryz.results153,go_sem]) rfl ⟨rfl,hG.o,hF.o⟩
theorem Jaw (hI:L2) (t:Ty):L6 t:=by
 refine Ty.ind (C:=L6) (fun k s n ps fs vs hp hf hv=>?_) t;by_cases hA:k=16
 ·subst hA;exact Jax
 by_cases hB:k=20
 ·subst hB;exact Si hp
 by_cases hC:k=21
 ·subst hC;exact Xo hI hp
 exact Xp hA hB hC hp hf hv
open Go.RowKit Go.Maps
theorem M9 (L:List (Z8×Unit)):strKeys (Hf.datL L)=L.map fun f=>f.1.data.toList:=by
 unfold MK.datL strKeys;simp only[List.map_map];rfl
theorem S0 {α:Type}(L:List (Z8×α)) (x:Z8):(Fo L x).isSome=true↔x∈L.map (·.1):=by
 induction L with
 | nil=>simp[Fo]
 | cons f L ih=>
  rw[Dm,List.map_cons,List.mem_cons];by_cases h:f.1=x
  ·rw[if_pos h];simp[h]
  ·rw[if_neg h,ih];exact⟨.inr,fun h2=>h2.elim (fun e=>absurd e.symm h) id⟩
theorem M0 {W:World}{b n:Nat}{L:List (Z8×Unit)}(h:W.ownsMap Tryz.prog (Hf:MK Tryz.prog Unit).S Hf.R b n (Hf.datL L)):(L.map (·.1)).Nodup:=by
 obtain⟨es,hD,hA,-⟩:=h.entries (Go.Maps.string_keyed Hf.hS);unfold MK.datL at hD;injection hD with hD
 rw[<-hD,List.pairwise_map]at hA;rw[List.nodup_iff_pairwise_ne,List.pairwise_map];exact hA.imp fun hB e=>hB (by rw[e])
theorem Xy {ss:List (List UInt8)}:∀x:Z8,x∈(ss.mergeSort (fun x y=>decide (x<=y))).map (fun y=>(⟨y.toArray⟩:Z8))↔x.data.toList∈ss:=fun x=>by
 rw[List.mem_map]
 constructor
 ·rintro⟨y,hy,rfl⟩;simpa using hy
 ·intro h;exact⟨x.data.toList,by simpa using h,by simp⟩
theorem Ro {K:Nat->Prop}{w:World}{t:Ty}{cs:List Value}(hr:Aw K w t cs) (hK:∀x,K x->x<w.heap.size) (hf:Aj t=true) (hv:Dk t=true) (hc:Am t<=5000) :
  Calls Tryz.prog 113 #[.agg cs.toArray] w fun e w'=>∃l A c,e=.returned (.slice A l.length c)/\Cg w' l A/\(∀x,x∈l↔Bp x t=true)/\l.length<=Am t/\l.Nodup/\(A=none->c=0)/\(∀b o,A=some ⟨b,o,none⟩->w.heap.size<=b/\b<w'.heap.size)/\Below w.heap.size w w':=by
 have HCN:=Hd hc;have kH:=Jdj (N:=5000) t hv hc;have kL:(Ed t).length<maxLen:=Nat.lt_of_le_of_lt (Nat.le_trans kH (Nat.mul_le_mul_right _ hc)) (by decide);obtain⟨w1,hE⟩:∃x,x=w.alloc (.cells cs.toArray 26):=⟨_,rfl⟩;obtain⟨M,hM⟩:∃x,x=w1.heap.size:=⟨_,rfl⟩;obtain⟨w4,hN⟩:∃x,x=((w1.alloc (.map #[] 0)).alloc (.map #[] 0)).alloc (.cells #[.map (some M),.map (some (M+1))] 188):=⟨_,rfl⟩;have kK:M=w.heap.size+1:=by rw[hM,hE];simp
 have hS:Below w.heap.size w w1:=by rw[hE];exact (Below.refl _ _).alloc (Nat.le_refl _) _
 have hT:Below w1.heap.size w1 (w1.alloc (.map #[] 0)):=(Below.refl _ _).alloc (Nat.le_refl _) _;have hG:Below (w1.alloc (.map #[] 0)).heap.size (w1.alloc (.map #[] 0)) ((w1.alloc (.map #[] 0)).alloc (.map #[] 0)):=(Below.refl _ _).alloc (Nat.le_refl _) _;have hL:Below ((w1.alloc (.map #[] 0)).alloc (.map #[] 0)).heap.size ((w1.alloc (.map #[] 0)).alloc (.map #[] 0)) w4:=by rw[hN];exact (Below.refl _ _).alloc (Nat.le_refl _) _
 have hB:Below w1.heap.size w1 w4:=hT.trans ((hG.trans (hL.mono hG.size)).mono hT.size);have hJ:Below w.heap.size w w4:=hS.trans (hB.mono hS.size);have kI:Cy Jdb (w1.alloc (.map #[] 0)) M 0 (fun _=>none):=by rw[hM];exact Cy.new _ w1
 have kJ:Cy Hf ((w1.alloc (.map #[] 0)).alloc (.map #[] 0)) (M+1) 0 (fun _=>none):=by
  have h:=Cy.new (Hf:MK Tryz.prog Unit) (w1.alloc (.map #[] 0));have e:(w1.alloc (.map #[] 0)).heap.size=M+1:=by rw[hM];simp
  rw[e]at h;exact h
 have kM:w4.heap[M+2]?=some (.cells #[.map (some M),.map (some (M+1))] 188 (0,0)):=by
  have h:=heap_alloc_new ((w1.alloc (.map #[] 0)).alloc (.map #[] 0)) (.cells #[.map (some M),.map (some (M+1))] 188);have e:((w1.alloc (.map #[] 0)).alloc (.map #[] 0)).heap.size=M+2:=by rw[hM];simp
  rw[e,<-hN]at h;exact h
 have kC:Fp (Ed t) w4 (M+2) M (M+1) (fun _=>0) (fun _=>false):=⟨kM,⟨_,0,kI.later (hG.trans (hL.mono hG.size)),Nat.zero_le _,fun _=>rfl⟩,⟨_,0,kJ.later hL,Nat.zero_le _,fun _=>rfl⟩,by omega,by omega,by omega⟩;have kD:De K w4 t w.heap.size 0:=⟨cs,fun j u hj=>by
  rw[Nat.zero_add];have hx:w4.heap[w.heap.size]?=some (.cells cs.toArray 26 (0,0)):=Bj hB (by rw[hE];simp) (by rw[hE];exact heap_alloc_new w _);rw[Ch hx];simpa using hj,hr.later hJ⟩
 have KW:=Hd (Jaw Pt t K (Ed t) (M+2) M (M+1) w4 w.heap.size 0 (fun _=>0) (fun _=>false) kD ⟨by omega,by omega⟩ (fun x hx=>by have h1:=hK x hx;have h2:=hJ.size;omega) kC (fun x hx=>hx) kL (fun x=>by
  have h:=Nat.mul_le_mul_right 1000000000000002 hc;exact Nat.le_trans (by rw[Nat.zero_add];exact h) (by decide)) hf hv)
 have HW1:=Hd hE;have HM:=Hd hM;have kP:=Hd hN;have hY:=Hd hJ;have HS1:=Hd kK;have HT:Z9 (∀x,Bp x t=true->x∈Jh t):=Hd fun x=>Rl x t;have kN:=Hd (Jdr t);obtain⟨k,s,n,ps,fs,vs⟩:=t;obtain⟨A,c,B,d,C,e,rfl,-⟩:=hr.inv;simp only[Az]at HW1 ⊢;have kS:=@run_makeMap Tryz.prog;clear hr hK hf hv hc kH kL hE hM hN kK hS hT hG hL hB hJ kI kJ kM kC kD;go_enter Tryz.func113,Tryz.ntmps113;go_upto_region 1 with fail
 rw[<-HW1.o];go_upto_region 2 with fail
 clear kS;rw[<-HM.o,<-kP.o];go_wp2_with fail;refine KW.o.mono ?_;rintro e w5 ⟨rfl,hV,kE⟩;obtain⟨F,nn,⟨L,hA,kQ,kB⟩,-,kA⟩:=hV.fre;obtain⟨-,y1⟩:=hV.cell;have hD:∀x,x∈L.map (·.1)↔Bp x (.mk k s n ps fs vs)=true:=fun x=>by
  rw[<-S0,kB,kA];simp
 have hC:L.length<=Am (.mk k s n ps fs vs):=by
  have h:=Ow (M0 hA) fun x hx=>HT.o x ((hD x).1 hx);rw[List.length_map]at h;exact Nat.le_trans h kN.o
 have hX:Go.Maps.size (Hf.datL L)=L.length:=Hg _ L;have KK:=Hd (Go.callsIn_wide.1 (Jb8 (some (M+1)) w5));have KS:=Hd (Go.callsIn_wide.1 (Wy (M+1) L.length (Hf.datL L) Hf.R w5 hA (by rw[hX];have:=HCN.o;exact Nat.le_trans hC (Nat.le_trans this (by decide))) (by rw[hX];have:=HCN.o;omega)));have hZ:Z9 (Below w.heap.size w w5):=Hd (hY.o.trans (kE.below hY.o.size fun x hx=>by have:=HS1.o;omega));have hR:=Hd hD;have hF:=Hd hC;have kO:=Hd (M0 hA);clear hV kE hA kQ kB kA hD hC hX KW;go_wp2_with fail;refine KK.o.mono ?_;rintro e w6 ⟨rfl,hO⟩;have kF:Below w5.heap.size w5 w6:=by rw[hO];exact (Below.refl _ _).alloc (Nat.le_refl _) _
 have hP:=Hd (hZ.o.trans (kF.mono hZ.o.size));have kU:=Hd hO;rw[<-hO]at KS;clear hO kF y1 KK;go_wp2_with fail;refine KS.o.mono ?_;rintro e w7 ⟨v,ss,rfl,hp,hI,-,kG⟩;have hl:((ss.mergeSort (fun x y=>decide (x<=y))).map (fun y=>(⟨y.toArray⟩:Z8))).length=ss.length:=by simp
 have ho:Du w6.heap.size w7 v ((ss.mergeSort (fun x y=>decide (x<=y))).map (fun y=>(⟨y.toArray⟩:Z8))):=by
  unfold Du;rw[hl,List.map_map];exact hI
 have hW:ss.length=L.length:=by
  have h:=hp.length_eq;rw[M9,List.length_map]at h;exact h
 have hH:∃l A c,(Ending.returned v:Ending)=.returned (.slice A l.length c)/\Cg w7 l A/\(∀x,x∈l↔Bp x (.mk k s n ps fs vs)=true)/\l.length<=Am (.mk k s n ps fs vs)/\l.Nodup/\(A=none->c=0)/\(∀b o,A=some ⟨b,o,none⟩->w.heap.size<=b/\b<w7.heap.size)/\Below w.heap.size w w7:=by
  have kT:((ss.mergeSort (fun x y=>decide (x<=y))).map (fun y=>(⟨y.toArray⟩:Z8))).Nodup:=by
   have hU:=(((List.mergeSort_perm ss (fun x y=>decide (x<=y))).trans hp).map (fun y=>(⟨y.toArray⟩:Z8)));rw[M9,List.map_map]at hU;have e:L.map ((fun y:List UInt8=>(⟨y.toArray⟩:Z8)) ∘ fun f=>f.1.data.toList)=L.map (·.1):=List.map_congr_left fun f _=>rfl;rw[e]at hU;exact hU.nodup_iff.2 kO.o
  obtain⟨A5,c5,e5,kR⟩:=ho.list (by rw[hl,hW];have h1:=hF.o;have h2:=HCN.o;omega);refine⟨_,A5,c5,by rw[e5],kR,fun x=>?_,by rw[hl,hW];exact hF.o,kT,fun e=>?_,fun b o e=>?_,hP.o.trans (kG.mono hP.o.size)⟩
  ·rw[Xy x,hp.mem_iff,M9,<-hR.o x,List.mem_map,List.mem_map]
   constructor
   ·rintro⟨f,h1,h2⟩;exact⟨f,h1,Rx h2⟩
   ·rintro⟨f,h1,h2⟩;exact⟨f,h1,by rw[h2]⟩
  ·rcases ho.of with ⟨e6,-⟩|⟨g6,c6,e6,-⟩
   ·rw[e5]at e6;injection e6
   ·rw[e5,e]at e6;injection e6 with e7;cases e7
  ·rw[e5,e]at ho;have h1:=World.ownsRow.lt ho b rfl;have h2:=hP.o.size;exact⟨by omega,h1.2⟩
 have hQ:=Hd hH;clear hp hI kG hl ho hW hH KS;go_wp2_with fail;go_ret
 exact hQ.o
theorem Wv {w:World}{N:List Z8}{A:Option Addr}{c:Nat}(hL:Cg w N A) (s:Z8) :
  Calls Tryz.prog 156 #[.slice A N.length c,.string s] w fun e w'=>(∃z:Int,e=.returned (.int .i64 z)/\decide (0<=z)=Dc N s)/\w'=w:=by
 obtain⟨b,o,hA,hD,hG⟩:=hL;have hK:=Hd hG;have hJ:=Hd hA;have hN:=Hd hD;clear hG hA hD;go_enter Tryz.func156,Tryz.ntmps156;go_wp2_with fail
 go_loopw [8] (fun v wr=>∃i:Nat,i<=N.length/\v=.int .i64 i/\wr=w/\(∀y∈N.take i,y≠s)) (fun v _=>N.length - (intOf v).toNat)
 case atStart=>exact⟨0,Nat.zero_le _,rfl,rfl,fun y h=>absurd h (by simp)⟩
 case round=>
  obtain⟨i,hi,rfl,hH,hE⟩:=hrel;obtain rfl:=hH.symm;clear hH;have hD:=hN.o;by_cases hC:i<N.length
  ·have t1:decide ((i:Int)<(N.length:Int))=true:=by simp;omega
   have hI:wrap64 ((i:Int)+1)=((i+1:Nat):Int):=Ba (by omega);have HM:=Hd (Bg hC);have hM:Z9 (i+1<=N.length):=Hd hC;have hA:=hJ.o (by omega);subst hA;have z0:=hK.o i hC;have hB:(N[i]'hC)∈N:=List.getElem_mem hC;have hF:(N[i]'hC)≠s->∀y∈N.take (i+1),y≠s:=fun hP y hy=>by
    rw[List.take_succ_eq_append_getElem hC,List.mem_append,List.mem_singleton]at hy;rcases hy with hy|rfl
    ·exact hE y hy
    ·exact hP
   generalize N[i]'hC=y at z0 hB hF;have i1:(0:Int)<=(i:Int):=by omega
   have i2:(i:Int)<(N.length:Int):=by omega
   by_cases he:s=y
   ·subst he;have te:(s.toList == s.toList)=true:=(by simp);have HR:Z9 (∃z:Int,(Ending.returned (.int .i64 (i:Int)):Ending)=.returned (.int .i64 z)/\decide (0<=z)=Dc N s):=Hd ⟨i,rfl,by rw[Dh.2 hB];exact decide_eq_true i1⟩;clear hi hE hD hB hF;go_wp2_with fail;go_ret
    exact⟨HR.o,rfl⟩
   ·have te:(s.toList == y.toList)=false:=(by rw[eqT];exact decide_eq_false he);have hO:=Hd (hF fun e=>he e.symm);clear hi hE hD hB hF he;go_wp2_with fail;refine⟨⟨i+1,hM.o,by first|rfl|rw[hI],by trivial,hO.o⟩,?_⟩;first|exact HM.o|(rw[hI];exact HM.o)
  ·have t1:decide ((i:Int)<(N.length:Int))=false:=by simp;omega
   have HR:Z9 (∃z:Int,(Ending.returned (.int .i64 (-1:Int)):Ending)=.returned (.int .i64 z)/\decide (0<=z)=Dc N s):=Hd ⟨-1,rfl,by
    have h:Dc N s=false:=by
     rw[Bool.eq_false_iff];intro h;rw[Dh]at h;exact hE s (by rw[List.take_of_length_le (by omega)];exact h) rfl
    rw[h];rfl⟩
   clear hi hE hD;go_wp2_with fail;go_ret
   exact⟨HR.o,rfl⟩
theorem Jo {w:World}{N:List Z8}{A:Option Addr}{c:Nat}(hL:Cg w N A) (s:Z8) :
  Calls Tryz.prog 114 #[.slice A N.length c,.string s] w fun e w'=>e=.returned (.bool (Dc N s))/\w'=w:=by
 have KI:=Hd (Wv (c:=c) hL s);clear hL;go_enter Tryz.func114,Tryz.ntmps114;go_wp2_with fail;refine KI.o.mono ?_;rintro e w2 ⟨⟨z,rfl,hz⟩,hw⟩;obtain rfl:=hw.symm;have HZ:=Hd hz;clear hw hz;go_wp2_with fail;go_ret
 exact⟨by rw[<-HZ.o];rfl,rfl⟩
def FrL (u:Ty) (l:List Z8):Prop:=(∀x,x∈l↔Bp x u=true)/\l.length<=Am u
def P5 (Z:Nat->Prop) (w:World) (A:Option Addr) (c:Nat):Prop:=(A=none->c=0)/\∀b o,A=some ⟨b,o,none⟩->b<w.heap.size/\¬ Z b
structure Ce (K Z:Nat->Prop) (w:World) (sb:Nat) (u:Ty) (nd:Nat):Prop where
 ex:∃(es:List Value) (fv:Value) (kn:Bool),w.heap[sb]?=some (.cells (es++[.int .i64 (nd:Int),fv,.bool kn]).toArray 120 (0,0))/\Aw K w u es/\(kn=true->∃l A c,fv=.slice A l.length c/\Cg w l A/\FrL u l/\P5 Z w A c)
theorem Ce.but {K Z O:Nat->Prop}{w w':World}{sb:Nat}{u:Ty}{nd:Nat}(h:Ce K Z w sb u nd) (hb:Ad O w w') (hs:¬ O sb) (hO:∀x,O x->Z x\/w.heap.size<=x) (hK:∀x,K x->¬ O x):Ce K Z w' sb u nd:=by
 obtain⟨es,fv,kn,h1,h2,h3⟩:=h;refine⟨es,fv,kn,hb.up hs h1,h2.but hb fun x hx=>⟨hK x hx,hx⟩,fun hk=>?_⟩;obtain⟨l,A,c,e1,e2,e3,e4⟩:=h3 hk;refine⟨l,A,c,e1,e2.but hb fun b o e hx=>?_,e3,e4.1,fun b o e=>⟨Nat.lt_of_lt_of_le (e4.2 b o e).1 hb.size,(e4.2 b o e).2⟩⟩;rcases hO b hx with h|h
 ·exact (e4.2 b o e).2 h
 ·have:=(e4.2 b o e).1;omega
theorem Ce.more {K Z Z':Nat->Prop}{w:World}{sb:Nat}{u:Ty}{nd:Nat}(h:Ce K Z w sb u nd) (hZ:∀x,Z' x->Z x\/w.heap.size<=x):Ce K Z' w sb u nd:=by
 obtain⟨es,fv,kn,h1,h2,h3⟩:=h;refine⟨es,fv,kn,h1,h2,fun hk=>?_⟩;obtain⟨l,A,c,e1,e2,e3,e4⟩:=h3 hk;refine⟨l,A,c,e1,e2,e3,e4.1,fun b o e=>⟨(e4.2 b o e).1,fun hz=>?_⟩⟩;rcases hZ b hz with h|h
 ·exact (e4.2 b o e).2 h
 ·have:=(e4.2 b o e).1;omega
theorem Nt {K Z:Nat->Prop}{w:World}{sb:Nat}{u:Ty}{nd:Nat}(h:Ce K Z w sb u nd) (hK:∀x,K x->x<w.heap.size/\x≠sb) (hZ:Z sb) (hR:∀x,Z x->x<w.heap.size) (hf:Aj u=true) (hv:Dk u=true) (hc:Am u<=5000) :
  Calls Tryz.prog 115 #[.pointer (some ⟨sb,0,none⟩)] w fun e w'=>∃l A c,e=.returned (.slice A l.length c)/\Cg w' l A/\FrL u l/\P5 Z w' A c/\Ce K Z w' sb u nd/\Ad (fun x=>x=sb) w w':=by
 obtain⟨es,fv,kn,hx,hr,hP⟩:=h;have hQ:=(Array.getElem?_eq_some_iff.1 hx).1;have HK:=Hd hK;have hV:=Hd hQ;have hX:=Hd hR;have HZ:=Hd hZ;have hM:=Ro hr (fun x hx=>(hK x hx).1) hf hv hc;obtain⟨k4,s4,n4,hH,hD,hI⟩:=u;obtain⟨A4,c4,B4,d4,C4,e4,rfl,-⟩:=hr.inv;simp only[Az,List.cons_append,List.nil_append]at hx hr hM;have HX:=Hd hx;have HR:=Hd hr;have z8:=Ch hx 8;simp only[List.getElem?_toArray,List.getElem?_cons_zero,List.getElem?_cons_succ]at z8
 cases kn with
 | true=>
  obtain⟨l,A,c,rfl,hJ,hO,hB⟩:=hP rfl;have z7:=Ch hx 7;simp only[List.getElem?_toArray,List.getElem?_cons_zero,List.getElem?_cons_succ]at z7;have hC:Z9 (∃l' A' c',(Ending.returned (.slice A l.length c):Ending)=.returned (.slice A' l'.length c')/\Cg w l' A'/\FrL (.mk k4 s4 n4 hH hD hI) l'/\P5 Z w A' c'/\Ce K Z w sb (.mk k4 s4 n4 hH hD hI) nd/\Ad (fun x=>x=sb) w w):=Hd ⟨l,A,c,rfl,hJ,hO,hB,⟨_,_,true,hx,hr,fun _=>⟨l,A,c,rfl,hJ,hO,hB⟩⟩,Ad.refl _ _⟩;clear hP hJ hO hB hx hr hM hK hQ hR hZ hf hv hc;go_enter Tryz.func115,Tryz.ntmps115;go_wp2_with fail;go_ret
  exact hC.o
 | false=>
  have KF:=Hd hM;obtain⟨z0,z1,z2,z3,z4,z5⟩:w.cell? ⟨sb,0,none⟩=some (.int .i64 k4)/\w.cell? ⟨sb,1,none⟩=some (.string s4)/\w.cell? ⟨sb,2,none⟩=some (.int .i64 n4)/\w.cell? ⟨sb,3,none⟩=some (.slice A4 hH.length c4)/\w.cell? ⟨sb,4,none⟩=some (.slice B4 hD.length d4)/\w.cell? ⟨sb,5,none⟩=some (.slice C4 hI.length e4):=⟨Ch hx 0,Ch hx 1,Ch hx 2,Ch hx 3,Ch hx 4,Ch hx 5⟩;clear hP hx hr hM hK hQ hR hZ hf hv hc;go_enter Tryz.func115,Tryz.ntmps115;go_upto_region 2 with fail
  clear z8;go_wp2_with fail;refine KF.o.mono ?_;rintro e w2 ⟨l,A,c,rfl,hJ,hG,hE,-,hT,hU,hb⟩;have hL:=Bj hb hV.o HX.o;have y7:=Ch hL 7;have f7:=Lib.frozen_of_heap hL 7;have y8:=Ch hL 8;have f8:=Lib.frozen_of_heap hL 8;simp only[List.getElem?_toArray,List.getElem?_cons_zero,List.getElem?_cons_succ]at y7 y8;obtain⟨w3,hN⟩:∃x,x=(w2.setCell ⟨sb,7,none⟩ (.slice A l.length c)).setCell ⟨sb,8,none⟩ (.bool true):=⟨_,rfl⟩;have hS:w3.heap[sb]?=some (.cells #[.int .i64 k4,.string s4,.int .i64 n4,.slice A4 hH.length c4,.slice B4 hD.length d4,.slice C4 hI.length e4,.int .i64 nd,.slice A l.length c,.bool true] 120 (0,0)):=by
   rw[hN];exact Cw (Cw hL 7 _) 8 _
  have hA:Ad (fun x=>x=sb) w2 w3:=by rw[hN];exact ((Ad.refl _ _).put1 7 _).put1 8 _
  have hB:P5 Z w3 A c:=⟨hT,fun b o e=>by have h1:=hU b o e;have h2:=hA.size;exact⟨by omega,fun hz=>by have:=hX.o b hz;omega⟩⟩;have hF:Cg w3 l A:=hJ.but hA fun b o e h=>(hB.2 b o e).2 (h ▸ HZ.o);have y3:=Ch hS 7;simp only[List.getElem?_toArray,List.getElem?_cons_zero,List.getElem?_cons_succ]at y3;have hC:Z9 (∃l' A' c',(Ending.returned (.slice A l.length c):Ending)=.returned (.slice A' l'.length c')/\Cg w3 l' A'/\FrL (.mk k4 s4 n4 hH hD hI) l'/\P5 Z w3 A' c'/\Ce K Z w3 sb (.mk k4 s4 n4 hH hD hI) nd/\Ad (fun x=>x=sb) w w3):=Hd ⟨l,A,c,rfl,hF,⟨hG,hE⟩,hB,⟨[.int .i64 k4,.string s4,.int .i64 n4,.slice A4 hH.length c4,.slice B4 hD.length d4,.slice C4 hI.length e4],_,true,hS,(HR.o.later hb).but hA fun x hx=>⟨(HK.o x hx).2,hx⟩,fun _=>⟨l,A,c,rfl,hF,⟨hG,hE⟩,hB⟩⟩,(Ad.of_below hb).trans hA fun x h=>.inl h⟩;have hW:=Hd hN;clear hJ hG hE hU hT hb hL hN hS hA hB hF KF z0 z1 z2 z3 z4 z5;go_upto_region 3 with fail
  rw[<-hW.o];clear y7 f7 y8 f8;go_wp2_with fail;go_ret
  exact hC.o
def Jeu:Option Nat->Value
 | none=>.pointer none
 | some b=>.pointer (some ⟨b,0,none⟩)
def Jc0:Option Nat->DataW Unit
 | none=>.lit (.int .i64 (-1))
 | some b=>.lit (.int .i64 b)
def Jee:Value->Option (DataW Unit×List MemPlace)
 | .pointer none=>some (.lit (.int .i64 (-1)),[])
 | .pointer (some ⟨b,0,none⟩)=>some (.lit (.int .i64 b),[])
 | _=>none
def Lh:MK Tryz.prog (Option Nat) where
 T:=79
 S:=9
 E:=80
 val:=Jeu
 dat:=Jc0
 zero:=none
 R:=Jee
 hR:=fun a=>by cases a <;> rfl
 inv:=fun {v a ps} h=>by
  unfold Jee at h
  split at h
  ·cases a with
   | none=>rfl
   | some b=>
    simp only[Jc0,Option.some.injEq,Prod.mk.injEq,DataW.lit.injEq,Lit.int.injEq,true_and]at h;omega
  ·cases a with
   | none=>
    simp only[Jc0,Option.some.injEq,Prod.mk.injEq,DataW.lit.injEq,Lit.int.injEq,true_and]at h;omega
   | some b=>
    simp only[Jc0,Option.some.injEq,Prod.mk.injEq,DataW.lit.injEq,Lit.int.injEq,true_and]at h;have:=h.1;rename_i b';obtain rfl:b'=b:=by omega
    rfl
  ·cases h
 hS:=Tryz.underlying9
 hT:=Tryz.underlying79
 hz:=fun _=>by kernel_rfl
def I8 (act:Bool) (n0:Z8) (sb:Nat):Z8->Option (Option Nat):=fun x=>if (act && decide (n0=x))=true then some (some sb) else none
def Cp (wk sb:Nat) (n0:Z8) (w:World) (m:Option Nat) (act:Bool):Prop:=match m with
 | none=>act=false
 | some b=>b≠sb/\b≠wk/\b<w.heap.size/\∃n,n<=1/\Cy Lh w b n (I8 act n0 sb)
theorem Cp.but {wk sb:Nat}{n0:Z8}{w w':World}{m:Option Nat}{act:Bool}{O:Nat->Prop}(h:Cp wk sb n0 w m act) (hb:Ad O w w') (hO:∀x,O x->x=wk\/x=sb\/w.heap.size<=x):Cp wk sb n0 w' m act:=by
 cases m with
 | none=>exact h
 | some b=>
  obtain⟨h1,h2,h3,n,h4,h5⟩:=h;refine⟨h1,h2,Nat.lt_of_lt_of_le h3 hb.size,n,h4,h5.keep (hb.block b h3 fun e=>?_)⟩;rcases hO b e with h|h|h
  ·exact h2 h
  ·exact h1 h
  ·omega
theorem Cp.len {wk sb:Nat}{n0:Z8}{w:World}{m:Option Nat}{act:Bool}(h:Cp wk sb n0 w m act):∃z:Int,(Builtin.len_ #[79] 3 #[.map m]).run Tryz.prog w=.ok (.int .i64 z) w/\decide (z=0) = !act:=by
 cases m with
 | none=>
  have h':act=false:=h;subst h';refine⟨0,?_,rfl⟩;simp[Builtin.len_,run_underlying Tryz.underlying79,goInt,Result.andThen]
 | some b=>
  obtain⟨h1,h2,h3,n,h4,L,h5,h6,h7⟩:=h;refine⟨_,h5.len Tryz.underlying79 _,?_⟩;rw[Hg]
  cases L with
  | nil=>
   have h8:=h7 n0;rw[V7]at h8;unfold I8 at h8
   cases act with
   | false=>rfl
   | true=>simp at h8
  | cons f r=>
   have h8:=h7 f.1;rw[Dm,if_pos rfl]at h8;unfold I8 at h8
   cases act with
   | false=>simp at h8
   | true=>simp;omega
theorem Cp.look {wk sb:Nat}{n0:Z8}{w:World}{m:Option Nat}{act:Bool}(h:Cp wk sb n0 w m act) (s:Z8) (hs:s.size<=maxLen):(Instr.lookup 79 (.map m) (.string s) true).run Tryz.prog w=.ok (.tuple #[if (act && decide (n0=s))=true then .pointer (some ⟨sb,0,none⟩) else .pointer none,.bool (act && decide (n0=s))]) w:=by
 cases m with
 | none=>
  have h':act=false:=h;subst h';exact Lh.nil2 w s
 | some b=>
  obtain⟨h1,h2,h3,n,h4,h5⟩:=h;have h6:=h5.look2 s hs;unfold I8 at h6
  cases hq:act && decide (n0=s) with
  | false=>rw[hq]at h6;exact h6
  | true=>rw[hq]at h6;exact h6
theorem Cp.new {wk sb:Nat}{n0:Z8}{w:World}(hB:wk<w.heap.size) (hA:sb<w.heap.size):Cp wk sb n0 (w.alloc (.map #[] 0)) (some w.heap.size) false:=by
 refine⟨by omega,by omega,?_,0,Nat.zero_le _,?_⟩
 ·simp
 ·have h:=Cy.new Lh w;have e:I8 false n0 sb=fun _=>none:=by funext x;simp[I8]
  rw[e];exact h
theorem Cp.put {wk sb:Nat}{n0:Z8}{w:World}{b:Nat}(h:Cp wk sb n0 w (some b) false) (hs:n0.size<=maxLen) :
  ∃w',(Instr.mapUpdate 79 (.map (some b)) (.string n0) (.pointer (some ⟨sb,0,none⟩))).run Tryz.prog w=.ok () w'/\Cp wk sb n0 w' (some b) true/\Ad (fun x=>x=b) w w':=by
 obtain⟨h1,h2,h3,n,h4,L,h5,h6,h7⟩:=h;have hL:L=[]:=by
  cases L with
  | nil=>rfl
  | cons f r=>
   have h8:=h7 f.1;rw[Dm,if_pos rfl]at h8;simp[I8]at h8
 subst hL;have h0:Cy Lh w b 0 (I8 false n0 sb):=⟨[],h5,Nat.le_refl _,h7⟩;obtain⟨w',hr,hm,hg⟩:=h0.put (by omega) n0 hs (some sb);have hb:=Iu hg;refine⟨w',hr,⟨h1,h2,Nat.lt_of_lt_of_le h3 hb.size,1,Nat.le_refl _,?_⟩,hb⟩;have e:Hx (I8 false n0 sb) n0 (some sb)=I8 true n0 sb:=by
  funext x;unfold Hx I8;by_cases e:n0=x <;> simp[e]
 rw[<-e];exact hm
theorem Cg.butL {w w':World}{l:List Z8}{A:Option Addr}{O:Nat->Prop}(h:Cg w l A) (hb:Ad O w w') (hO:∀b o,A=some ⟨b,o,none⟩->b<w.heap.size->¬ O b):Cg w' l A:=by
 obtain⟨b,o,hA,hl,hB⟩:=h;refine⟨b,o,hA,hl,fun i hi=>?_⟩;have h1:=hB i hi;have hC:b<w.heap.size:=World.block_lt_of_cell? _ _ h1;exact hb.cell (hO b o (hA (by omega)) hC) h1
theorem Lt {K:Nat->Prop}{w:World}(t:Ty):∀cs,Aw K w t cs->∀x∈Jh t,x.size<=1000000000000000:=by
 refine Ty.ind (C:=fun t=>∀cs,Aw K w t cs->∀x∈Jh t,x.size<=1000000000000000) (fun k s n ps fs vs hp hf hv cs hr x hx=>?_) t;obtain⟨A,c,B,d,C,e,-,ht,hL,hF,hV⟩:=hr.inv;rw[Th,List.mem_append,List.mem_append,List.mem_append]at hx;rcases hx with hx|hx|hx|hx
 ·split at hx
  ·obtain rfl:x=s:=by simpa using hx
   exact ht
  ·cases hx
 ·obtain⟨l,hl,hx⟩:=List.mem_flatten.1 hx;obtain⟨v,hJ,rfl⟩:=List.mem_map.1 hl;obtain⟨l,hl,hx⟩:=List.mem_flatten.1 hx;obtain⟨b,hG,rfl⟩:=List.mem_map.1 hl;obtain⟨i,hi,rfl⟩:=List.getElem_of_mem hJ;obtain⟨_,_,-,-,hB⟩:=hV.at (Nat.lt_of_le_of_lt (Nat.zero_le i) hi);obtain⟨B2,d2,-,-,-,hE⟩:=hB i hi;obtain⟨j,hj,rfl⟩:=List.getElem_of_mem hG;obtain⟨_,_,-,-,hD⟩:=hE.at (Nat.lt_of_le_of_lt (Nat.zero_le j) hj);obtain⟨hA,-,hC⟩:=hD j hj;exact hv _ (List.getElem_mem hi) _ (List.getElem_mem hj) hA hC x hx
 ·obtain⟨l,hl,hx⟩:=List.mem_flatten.1 hx;obtain⟨p,hI,rfl⟩:=List.mem_map.1 hl;obtain⟨i,hi,rfl⟩:=List.getElem_of_mem hI;obtain⟨_,_,-,-,hB⟩:=hL.at (Nat.lt_of_le_of_lt (Nat.zero_le i) hi);obtain⟨hA,-,hC⟩:=hB i hi;exact hp _ (List.getElem_mem hi) hA hC x hx
 ·obtain⟨l,hl,hx⟩:=List.mem_flatten.1 hx;obtain⟨f,hH,rfl⟩:=List.mem_map.1 hl;obtain⟨i,hi,rfl⟩:=List.getElem_of_mem hH;obtain⟨_,_,-,-,hB⟩:=hF.at (Nat.lt_of_le_of_lt (Nat.zero_le i) hi);obtain⟨-,-,-,hA,-,hC⟩:=hB i hi;exact hf _ (List.getElem_mem hi) hA hC x hx
theorem Sv {wk sb:Nat}{n0:Z8}{w:World}{m:Option Nat}{N:List Z8}{A A3 A4 A5:Option Addr}{c l3 c3 l4 c4 l5 c5:Nat}{k n:Int}{s:Z8}(hE:Cp wk sb n0 w m false) :
  Calls Tryz.prog 83 #[.slice A N.length c,.agg #[.int .i64 k,.string s,.int .i64 n,.slice A3 l3 c3,.slice A4 l4 c4,.slice A5 l5 c5],.map m] w fun e w'=>e=.returned (.tuple #[.slice A N.length c,.map none])/\Below w.heap.size w w':=by
 obtain⟨w1,hB⟩:∃x,x=w.alloc (.cells #[.int .i64 k,.string s,.int .i64 n,.slice A3 l3 c3,.slice A4 l4 c4,.slice A5 l5 c5] 26):=⟨_,rfl⟩;have hA:Below w.heap.size w w1:=by rw[hB];exact (Below.refl _ _).alloc (Nat.le_refl _) _
 obtain⟨z,hz,hC⟩:=(hE.but (Ad.of_below (O:=fun _=>False) hA) fun _ h=>h.elim).len;obtain rfl:z=0:=of_decide_eq_true hC;have HB:=Hd hA;have HW:=Hd hB;clear hE hA hC hB;go_enter Tryz.func83,Tryz.ntmps83;go_upto_region 1 with fail
 rw[<-HW.o];go_wp2_with fail
 go_ret2
 exact⟨rfl,HB.o⟩
theorem Oa {wk sb:Nat}{n0:Z8}{w:World}{m:Option Nat}{A A3 A4 A5:Option Addr}{c l3 c3 l4 c4 l5 c5:Nat}{k n:Int}{s:Z8}(hE:Cp wk sb n0 w m true) :
  Calls Tryz.prog 83 #[.slice A 0 c,.agg #[.int .i64 k,.string s,.int .i64 n,.slice A3 l3 c3,.slice A4 l4 c4,.slice A5 l5 c5],.map m] w fun e w'=>e=.returned (.tuple #[.slice A 0 c,.map m])/\Below w.heap.size w w':=by
 obtain⟨w1,hB⟩:∃x,x=w.alloc (.cells #[.int .i64 k,.string s,.int .i64 n,.slice A3 l3 c3,.slice A4 l4 c4,.slice A5 l5 c5] 26):=⟨_,rfl⟩;have hA:Below w.heap.size w w1:=by rw[hB];exact (Below.refl _ _).alloc (Nat.le_refl _) _
 obtain⟨z,hz,hC⟩:=(hE.but (Ad.of_below (O:=fun _=>False) hA) fun _ h=>h.elim).len;have f1:¬ z=0:=of_decide_eq_false hC;have HB:=Hd hA;have HW:=Hd hB;clear hE hA hB;go_enter Tryz.func83,Tryz.ntmps83;go_upto_region 1 with fail
 rw[<-HW.o];go_wp2_with fail
 go_ret2
 exact⟨rfl,HB.o⟩
