import Derived.Test.YtlpfpehegddcfaaGreatDoorMx21
namespace Go.Proofs.YtlpfpehegddcfaaGreatDoor
set_option maxRecDepth 100000
set_option maxHeartbeats 64000000
open Go.RowKit
theorem Ib {w:World}{g y:Nat}{v0 v1 v2 v3 v4 v5:Value}{p:Addr}(h:p.block≠g\/p.off<y\/y+6<=p.off):(Ey w g y v0 v1 v2 v3 v4 v5).cell? p=w.cell? p:=by
 have hA:∀i,i<6->(⟨g,y+i,none⟩:Addr)≠p:=fun i hi e=>by
  subst e;rcases h with h|h|h
  ·exact h rfl
  ·have h:y+i<y:=h;omega
  ·have h:y+6<=y+i:=h;omega
 unfold Ey;rw[World.cell?_setCell_other _ _ _ _ (hA 5 (by omega)),World.cell?_setCell_other _ _ _ _ (hA 4 (by omega)),World.cell?_setCell_other _ _ _ _ (hA 3 (by omega)),World.cell?_setCell_other _ _ _ _ (hA 2 (by omega)),World.cell?_setCell_other _ _ _ _ (hA 1 (by omega)),World.cell?_setCell_other _ _ _ _ (show (⟨g,y,none⟩:Addr)≠p from hA 0 (by omega))]
theorem Fi {O:Nat->Prop}{a w:World}{g y:Nat}{v0 v1 v2 v3 v4 v5:Value}(h:Ad O a w) (hg:O g\/a.heap.size<=g):Ad O a (Ey w g y v0 v1 v2 v3 v4 v5):=
 (((((h.set (p:=⟨g,y,none⟩) hg v0).set (p:=⟨g,y+1,none⟩) hg v1).set (p:=⟨g,y+2,none⟩) hg v2).set (p:=⟨g,y+3,none⟩) hg v3).set (p:=⟨g,y+4,none⟩) hg v4).set (p:=⟨g,y+5,none⟩) hg v5
theorem Jx {P:Nat->Prop}{w:World}{g y:Nat}{v0 v1 v2 v3 v4 v5:Value}{t:Ty}{cs:List Value}(hP:∀x,P x->x≠g) (hr:Aw P w t cs):Aw P (Ey w g y v0 v1 v2 v3 v4 v5) t cs:=
 Aw.keep (fun _ h=>h) (fun b o v hk hc=>by rw[Ib (.inl (hP b hk))];exact hc) t cs hr
structure PlT (P:Nat->Prop) (w:World) (g:Nat) (l:List Ty):Prop where
 lt:g<w.heap.size
 cell:∀y,y<l.length*6->∃v,w.cell? ⟨g,y,none⟩=some v
 free:∀y,w.frozen? ⟨g,y,none⟩=false
 reps:∀i (h:i<l.length),∃cs,Aw P w l[i] cs/\∀j u,cs[j]?=some u->w.cell? ⟨g,i*6+j,none⟩=some u
theorem Jr {w w':World}{g y:Nat}(h:w'.heap[g]?=w.heap[g]?) (h0:w.frozen? ⟨g,y,none⟩=false):w'.frozen? ⟨g,y,none⟩=false:=by
 unfold World.frozen? at h0 ⊢;simp only at h0 ⊢;rw[h];exact h0
theorem PlT.set {P:Nat->Prop}{w:World}{g i:Nat}{l:List Ty}{t:Ty}{v0 v1 v2 v3 v4 v5:Value}(h:PlT P w g l) (hP:∀x,P x->x≠g) (hi:i<l.length) (ht:Aw P w t [v0,v1,v2,v3,v4,v5]):PlT P (Ey w g (i*6) v0 v1 v2 v3 v4 v5) g (l.set i t):=by
 refine⟨by rw[Kh];exact h.lt,fun y hy=>?_,fun y=>?_,fun k hk=>?_⟩
 ·rw[List.length_set]at hy;exact Br (Br (Br (Br (Br (Br (h.cell y hy))))))
 ·simp only[Ey,World.frozen?_setCell];exact h.free y
 ·rw[List.length_set]at hk;by_cases e:i=k
  ·subst e;refine⟨_,by rw[List.getElem_set_self];exact Jx hP ht,fun j u hj=>Pw (fun x hx=>h.cell _ (by omega)) j u hj⟩
  ·obtain⟨cs,h1,h2⟩:=h.reps k hk;have h6:=h1.six;refine⟨cs,by rw[List.getElem_set_ne e];exact Jx hP h1,fun j u hj=>?_⟩;have hA:=(List.getElem?_eq_some_iff.1 hj).1;rw[Ib (.inr (by show k*6+j<i*6\/i*6+6<=k*6+j;omega))];exact h2 j u hj
theorem PlT.list {P:Nat->Prop}{w:World}{g c:Nat}{l:List Ty}(h:PlT P w g l) (hc:l.length<=c) (hl:l.length<=1000000000000000):Bk (fun x=>P x\/x=g) w l (some ⟨g,0,none⟩) c:=
 ⟨g,0,⟨hc,hl,(fun h=>by cases h),fun _=>⟨rfl,.inr rfl⟩⟩,fun i hi=>by
  obtain⟨cs,h1,h2⟩:=h.reps i hi;exact⟨cs,fun j u hj=>by rw[Nat.zero_add];exact h2 j u hj,h1.weak fun b hb=>.inl hb⟩⟩
theorem Qh {K:Nat->Prop}{w:World}{l:List Ty}{b o c:Nat}(hL:∀i (h:i<l.length),De K w l[i] b (o+i*6)) (hn:l.length<=1000000) :
  Calls Tryz.prog 66 #[.slice (some ⟨b,o,none⟩) l.length c] w fun e w'=>∃g c',e=.returned (.slice (some ⟨g,0,none⟩) l.length c')/\w.heap.size<=g/\l.length<=c'/\PlT K w' g l/\Below w.heap.size w w':=by
 obtain⟨news,h1,h2,h3,h4⟩:=Kl hL;refine (Md ⟨b,o,none⟩ l.length c news w hn h1 h3 fun j u hj=>?_).mono ?_
 ·have e2:((⟨b,o,none⟩:Addr).add j)=⟨b,o+j,none⟩:=by unfold Addr.add;by_cases h0:j=0 <;> simp[h0]
  rw[e2];exact h2 j u hj
 ·rintro e w' ⟨g,c',rfl,hg,hD,hc,hC,hb⟩;refine⟨g,c',rfl,hg,hc,?_,hb⟩;rcases hC.2 with ⟨hv,hz⟩|⟨g',cap,cur,hv,hB,hh,hH,hE,hI,hF⟩
  ·cases hv
  ·injection hv with hv _ _
   injection hv with hv
   injection hv with hv
   subst hv;have hA:∀y u,news[y]?=some u->w'.cell? ⟨g,y,none⟩=some u:=fun y u hy=>by
    rw[<-hF,List.getElem?_take]at hy
    split at hy
    ·rw[Ch hh];simpa using hy
    ·cases hy
   refine⟨hD,fun y hy=>?_,fun y=>Lib.frozen_of_heap hh y,fun i hi=>?_⟩
   ·have hG:y<news.length:=(by omega);exact⟨news[y],hA y _ (List.getElem?_eq_getElem hG)⟩
   ·obtain⟨cs,h5,h6⟩:=h4 i hi;exact⟨cs,h5.later hb,fun j u hj=>hA _ u (h6 j u hj)⟩
structure Jeg (k:Int) (t:Z8) (n:Int) (ps:List Ty) (fs:Bx) (vs:Bt) (K:Nat->Prop) (w:World) (A:Option Addr) (c:Nat) (A':Option Addr) (c':Nat) (A'':Option Addr) (c'':Nat) (w1:World):Prop where
 HXC:Z9 (∀wx,Below w1.heap.size w1 wx->wx.cell? ⟨w.heap.size,0,none⟩=some (.int .i64 k)/\wx.cell? ⟨w.heap.size,1,none⟩=some (.string t)/\wx.cell? ⟨w.heap.size,2,none⟩=some (.int .i64 n)/\wx.cell? ⟨w.heap.size,3,none⟩=some (.slice A ps.length c)/\wx.cell? ⟨w.heap.size,4,none⟩=some (.slice A' fs.length c')/\wx.cell? ⟨w.heap.size,5,none⟩=some (.slice A'' vs.length c''))
 KAll:Z9 (∀wx,Below w1.heap.size w1 wx->Calls Tryz.prog 69 #[.slice A ps.length c] wx fun e w'=>e=.returned (.bool (ps.all Aj))/\Below wx.heap.size wx w')
 KPl:Z9 (∀wx,Calls Tryz.prog 70 #[.agg #[.int .i64 k,.string t,.int .i64 n,.slice A ps.length c,.slice A' fs.length c',.slice A'' vs.length c'']] wx fun e w'=>e=.returned (.bool (t.toList == [] && n == 0))/\Below wx.heap.size wx w')
 KNm:Z9 (∀wx,Calls Tryz.prog 16 #[.string t] wx fun e w'=>e=.returned (.bool (B6 t))/\Below wx.heap.size wx w')
 KOb:Z9 (∀wx,Below w1.heap.size w1 wx->Calls Tryz.prog 72 #[.slice A' fs.length c'] wx fun e w'=>e=.returned (.bool (Co (Bq fs Aj)))/\Below wx.heap.size wx w')
 KBi:Z9 (∀wx,Below w1.heap.size w1 wx->Calls Tryz.prog 71 #[.slice A'' vs.length c''] wx fun e w'=>e=.returned (.bool (Eo (Dj vs Aj)))/\Below wx.heap.size wx w')
 KOv:Z9 (∀wx,Below w1.heap.size w1 wx->Calls Tryz.prog 73 #[.slice A ps.length c] wx fun e w'=>e=.returned (.bool (I1 ps))/\w'=wx)
 HREP:Z9 (Aw K w (.mk k t n ps fs vs) [.int .i64 k,.string t,.int .i64 n,.slice A ps.length c,.slice A' fs.length c',.slice A'' vs.length c''])
 HCN:Z9 (1+(Au ps+(Bm fs+Bl vs))<=1000000)
 HBZ:Z9 (Below w.heap.size w w1)
 HB:Z9 (Below w1.heap.size w1 w1)
 HS1:Z9 (w1.heap.size=w.heap.size+1)
 HX0:Z9 (w1.heap[w.heap.size]?=some (.cells #[.int .i64 k,.string t,.int .i64 n,.slice A ps.length c,.slice A' fs.length c',.slice A'' vs.length c''] 26 (0,0)))
 HW1:Z9 (w1=w.alloc (.cells #[.int .i64 k,.string t,.int .i64 n,.slice A ps.length c,.slice A' fs.length c',.slice A'' vs.length c''] 26))
 hlp:ps.length<=1000000000000000
 hlf:fs.length<=1000000000000000
 hlv:vs.length<=1000000000000000
theorem Bb (k:Int) (t:Z8) (n:Int) (ps:List Ty) (fs:Bx) (vs:Bt) (hp:∀p∈ps,Ae p) (hf:∀f∈fs,Ae f.2.2) (hv:∀v∈vs,∀b∈v.2,Ae b)
  (main:∀(K:Nat->Prop) (w:World) (A:Option Addr) (c:Nat) (A':Option Addr) (c':Nat) (A'':Option Addr) (c'':Nat) (w1:World),Jeg k t n ps fs vs K w A c A' c' A'' c'' w1 ->
   Calls Tryz.prog 38 #[.agg #[.int .i64 k,.string t,.int .i64 n,.slice A ps.length c,.slice A' fs.length c',.slice A'' vs.length c'']] w fun e w'=>e=.returned (.bool (Aj (.mk k t n ps fs vs)))/\Below w.heap.size w w'):Ae (.mk k t n ps fs vs):=by
 intro K w cs hB hc;obtain⟨A,c,A',c',A'',c'',rfl,hH,hL,hF,hV⟩:=hB.inv;simp only[Az];obtain⟨w1,hC⟩:∃x,x=w.alloc (.cells #[.int .i64 k,.string t,.int .i64 n,.slice A ps.length c,.slice A' fs.length c',.slice A'' vs.length c''] 26):=⟨_,rfl⟩;have hA:Below w.heap.size w w1:=by rw[hC];exact (Below.refl _ _).alloc (Nat.le_refl _) _
 have hG:w1.heap.size=w.heap.size+1:=by rw[hC];simp
 have hD:w1.heap[w.heap.size]?=some (.cells #[.int .i64 k,.string t,.int .i64 n,.slice A ps.length c,.slice A' fs.length c',.slice A'' vs.length c''] 26 (0,0)):=by rw[hC];exact heap_alloc_new w _
 have HXC:Z9 (∀wx,Below w1.heap.size w1 wx->wx.cell? ⟨w.heap.size,0,none⟩=some (.int .i64 k)/\wx.cell? ⟨w.heap.size,1,none⟩=some (.string t)/\wx.cell? ⟨w.heap.size,2,none⟩=some (.int .i64 n)/\wx.cell? ⟨w.heap.size,3,none⟩=some (.slice A ps.length c)/\wx.cell? ⟨w.heap.size,4,none⟩=some (.slice A' fs.length c')/\wx.cell? ⟨w.heap.size,5,none⟩=some (.slice A'' vs.length c'')):=Hd fun wx hx=>by
  have h:=Bj hx (by omega) hD;exact⟨Ch h 0,Ch h 1,Ch h 2,Ch h 3,Ch h 4,Ch h 5⟩
 have hE:1+(Au ps+(Bm fs+Bl vs))<=1000000:=by rw[<-Bu k t n ps fs vs];exact hc
 have KAll:=Hd fun wx (hx:Below w1.heap.size w1 wx)=>Uf ps hp (hL.later (hA.trans (hx.mono hA.size))) (by omega);have KPl:=Hd fun wx=>W9 (w:=wx) k t n A ps.length c A' fs.length c' A'' vs.length c'';have KNm:=Hd fun wx=>Ju t wx hH;have KOb:=Hd fun wx (hx:Below w1.heap.size w1 wx)=>Tm fs hf (hF.later (hA.trans (hx.mono hA.size))) (by omega);have hlv:vs.length<=1000000000000000:=by obtain⟨_,_,hr,_⟩:=hV;exact hr.big
 have KBi:=Hd fun wx (hx:Below w1.heap.size w1 wx)=>Vn vs hv (hV.later (hA.trans (hx.mono hA.size))) hlv (by omega);have KOv:=Hd fun wx (hx:Below w1.heap.size w1 wx)=>ι (hL.later (hA.trans (hx.mono hA.size)));have HREP:=Hd hB;have HL:=Hd hL;have HCN:=Hd hE;have HBZ:=Hd hA;have HB:Z9 (Below w1.heap.size w1 w1):=Hd (Below.refl _ _);have HS1:=Hd hG;have HX0:=Hd hD;have HW1:=Hd hC;have hlp:=hL.short;have hlf:=hF.shortF;have HP:=Hd hp;have HF':=Hd hf;have HV':=Hd hv;exact main K w A c A' c' A'' c'' w1 ⟨HXC,KAll,KPl,KNm,KOb,KBi,KOv,HREP,HCN,HBZ,HB,HS1,HX0,HW1,hlp,hlf,hlv⟩
theorem J0 {n:Int}(h:0<=n) (h':n<9223372036854775808):wrap64 n=n:=by
 have e:IntKind.i64.wrap n=wrap64 n:=by unfold wrap64;exact IntKind.wrap_i64 n
 rw[<-e];simp[IntKind.wrap,IntKind.bits,IntKind.signed];omega
theorem Ja9 {l:List Z8}{i:Nat}(h:i<l.length) (x:Z8):cI (l.drop i) x=cI (l.drop (i+1)) x+(if l[i]=x then 1 else 0):=by
 rw[List.drop_eq_getElem_cons h,Ja8]
theorem Rj (x:Z8) {l:List Ty}{i:Nat}(h:i<l.length):Gy x (l.take (i+1))=(Gy x (l.take i) || Bp x l[i]):=by
 unfold Gy;rw[List.take_succ_eq_append_getElem h,List.any_append];simp
theorem Ep {K:Nat->Prop}{U N:List Z8}{g mb mf:Nat}{w:World}{c:Z8->Nat}{S:Z8->Bool}{AN:Option Addr}{cN:Nat}{ps:List Ty}{A:Option Addr}{cp:Nat}{B:Nat}(hN:Cg w N AN) (hZ:∀b o,AN=some ⟨b,o,none⟩->b≠mb/\b≠mf) (hL:Bk K w ps A cp) (hK:∀x,K x->x<w.heap.size/\x≠mb/\x≠mf) (hS:Fp U w g mb mf c S) (kL:∀x∈N,x∈U/\x.size<=maxLen) (hU:U.length<maxLen)
  (hB:∀x,c x+cI N x<=B) (kK:B<=9000000000000000000) (hI:∀p∈ps,(∀x∈Ed p,x∈U)/\(Aj p=true/\Dk p=true)/\B+Am p*1000000000000002<=9000000000000000000) (ih:∀p∈ps,L6 p) :
  Calls Tryz.prog 187 #[.pointer (some ⟨g,0,none⟩),.slice AN N.length cN,.slice A ps.length cp] w (I2 U g mb mf w c S fun x=>!Dc N x && Gy x ps):=by
 have HN:=Hd hN;have kT:=Hd hZ;have HL:=Hd hL;have HK:=Hd hK;have HS:=Hd hS;have kI:=Hd kL;have HU:=Hd hU;have HB:=Hd hB;have kF:=Hd kK;have kO:=Hd hI;have kP:=Hd ih;have kH:Z9 (N.length<=1000000000000000):=Hd (by obtain⟨_,_,_,h,_⟩:=hN;exact h);have kQ:=Hd hL.short;have kG:Z9 (∀wx,Ad (fun x=>x=mb\/x=mf) w wx->Cg wx N AN):=Hd fun wx hx=>hN.but hx fun b o e h=>h.elim (hZ b o e).1 (hZ b o e).2;clear hN hZ hL hK hS kL hU hB kK hI ih;go_enter Tryz.func187,Tryz.ntmps187;go_wp2_with fail
 go_loopw [13] (fun v wr=>∃i:Nat,i<=N.length/\v=.int .i64 i/\Fp U wr g mb mf (fun x=>c x+cI (N.take i) x) S/\Ad (fun x=>x=mb\/x=mf) w wr) (fun v _=>N.length - (intOf v).toNat)
 case atStart=>exact⟨0,Nat.zero_le _,rfl,HS.o.same (fun x=>by simp[cI]) (fun _=>rfl),Ad.refl _ _⟩
 case round=>
  obtain⟨i,hi,rfl,hE,hD⟩:=hrel;have hX:=kH.o;by_cases hC:i<N.length
  ·have t1:decide ((i:Int)<(N.length:Int))=true:=by simp;omega
   have hP:wrap64 ((i:Int)+1)=((i+1:Nat):Int):=Ba (by omega);have HM:=Hd (Bg hC);have hT:Z9 (i+1<=N.length):=Hd hC;have hG:=Hd hD;obtain⟨nb,no,hW,-,hJ⟩:=kG.o wr hD;have hA:=hW (by omega);subst hA;have z0:=hJ i hC;have hH:∀x,cI (N.take (i+1)) x=cI (N.take i) x+(if (N[i]'hC)=x then 1 else 0):=fun x=>by rw[List.take_succ_eq_append_getElem hC,Jba]
   have hu:=kI.o _ (List.getElem_mem hC);have hF:c (N[i]'hC)+(cI (N.take i) (N[i]'hC)+1)<=9000000000000000000:=by
    have h1:=HB.o (N[i]'hC);have h2:=kF.o;have h3:cI (N.take (i+1)) (N[i]'hC)<=cI N (N[i]'hC):=(List.take_sublist (i+1) N).countP_le;rw[hH,if_pos rfl]at h3;omega
   generalize (N[i]'hC)=s at z0 hH hu hF;obtain⟨v1,hY⟩:∃v1,v1=c s+cI (N.take i) s:=⟨_,rfl⟩;obtain⟨v2,kE⟩:∃v2,v2=v1+1:=⟨_,rfl⟩;have lk:(Instr.lookup 185 (.map (some mb)) (.string s) false).run Tryz.prog wr=.ok (.int .i64 (v1:Int)) wr:=by rw[hY];exact hE.look s hu.2
   obtain⟨y0,-⟩:=hE.cell;have kS:wrap64 ((v1:Int)+1)=(v2:Int):=by rw[J0 (by omega) (by omega)];omega
   obtain⟨w3,kR,hO,hM⟩:=hE.put HU.o s hu.1 hu.2 v2;have hV:Z9 (Fp U w3 g mb mf (fun x=>c x+cI (N.take (i+1)) x) S):=Hd (hO.same (fun x=>by
    rw[hH];by_cases e:s=x
    ·subst e;rw[if_pos rfl,if_pos rfl];omega
    ·rw[if_neg e,if_neg e];rfl) fun _=>rfl)
   have hR:Z9 (Ad (fun x=>x=mb\/x=mf) w w3):=Hd (hD.trans hM fun x h=>.inl (.inl h));have i1:(0:Int)<=(i:Int):=by omega
   have i2:(i:Int)<(N.length:Int):=by omega
   clear hi hE hD hJ hW hH hu hF hO hM hX hY kE;go_wp2_with fail;refine⟨⟨i+1,hT.o,by first|rfl|rw[hP],hV.o,hR.o⟩,?_⟩;first|exact HM.o|(rw[hP];exact HM.o)
  ·have t1:decide ((i:Int)<(N.length:Int))=false:=by simp;omega
   obtain rfl:i=N.length:=by omega
   rw[List.take_length]at hE;have hQ:=Hd hE;have hG:=Hd hD;clear hi hC hE hD hX;go_wp2_with fail
   go_loopw [27] (fun v wx=>∃i:Nat,i<=ps.length/\v=.int .i64 i/\Fp U wx g mb mf (fun x=>c x+cI N x) (fun x=>S x || (decide (c x+cI N x=0) && Gy x (ps.take i)))/\Ad (fun x=>x=mb\/x=mf) w wx) (fun v _=>ps.length - (intOf v).toNat)
   case atStart=>exact⟨0,Nat.zero_le _,rfl,hQ.o.same (fun _=>rfl) (fun x=>by simp[Gy]),hG.o⟩
   case round=>
    clear hQ hG;obtain⟨i,hi,rfl,hE,hD⟩:=hrel;have kN:=kQ.o;by_cases hC:i<ps.length
    ·have t1:decide ((i:Int)<(ps.length:Int))=true:=(by simp;omega);have hP:wrap64 ((i:Int)+1)=((i+1:Nat):Int):=Ba (by omega);have HM:=Hd (Bg hC);have hT:Z9 (i+1<=ps.length):=Hd hC;have hG:=Hd hD;have kM:∀x,K x->¬ (x=mb\/x=mf)/\K x:=fun x hx=>⟨fun e=>e.elim (HK.o x hx).2.1 (HK.o x hx).2.2,hx⟩;obtain⟨tb,tq,hA,kA,hJ⟩:=(HL.o.but hD kM).at (Nat.lt_of_le_of_lt (Nat.zero_le i) hC);subst hA;have hp:=hJ i hC;have hI:=kO.o _ (List.getElem_mem hC);have kB:=kP.o _ (List.getElem_mem hC);have kC:=fun x=>Rj x hC;generalize (ps[i]'hC)=p at hp hI kB kC;have KW:=Hd (kB K U g mb mf _ tb (tq+i*6) _ _ hp ⟨(HK.o tb kA).2.1,(HK.o tb kA).2.2⟩ (fun x hx=>⟨Nat.lt_of_lt_of_le (HK.o x hx).1 hD.size,(HK.o x hx).2⟩) hE hI.1 HU.o (fun x=>by have h1:=HB.o x;have h2:=hI.2.2;omega) hI.2.1.1 hI.2.1.2);have kJ:=Hd kC;have i1:(0:Int)<=(i:Int):=(by omega);have i2:(i:Int)<(ps.length:Int):=(by omega);clear hi hE hD hJ hp hI kB kC kN kA kM;go_wp2_with fail;refine KW.o.mono ?_;rintro e w3 ⟨rfl,hO,hM⟩;have hV:Z9 (Fp U w3 g mb mf (fun x=>c x+cI N x) (fun x=>S x || (decide (c x+cI N x=0) && Gy x (ps.take (i+1))))):=Hd (hO.same (fun _=>rfl) fun x=>by
      rw[kJ.o];dsimp only;generalize decide (c x+cI N x=0)=d1;generalize Gy x (ps.take i)=d2;generalize Bp x p=d3
      cases S x <;> cases d1 <;> cases d2 <;> cases d3 <;> rfl)
     have hR:Z9 (Ad (fun x=>x=mb\/x=mf) w w3):=Hd (hG.o.trans hM fun x h=>.inl h);clear hO hM KW kJ;go_wp2_with fail;refine⟨⟨i+1,hT.o,by first|rfl|rw[hP],hV.o,hR.o⟩,?_⟩;first|exact HM.o|(rw[hP];exact HM.o)
    ·have t1:decide ((i:Int)<(ps.length:Int))=false:=(by simp;omega);obtain rfl:i=ps.length:=by omega
     rw[List.take_length]at hE;have hQ:=Hd hE;have hG:=Hd hD;clear hi hC hE hD kN;go_wp2_with fail
     go_loopw [38] (fun v wy=>∃i:Nat,i<=N.length/\v=.int .i64 i/\Fp U wy g mb mf (fun x=>c x+cI (N.drop i) x) (fun x=>S x || (decide (c x+cI N x=0) && Gy x ps))/\Ad (fun x=>x=mb\/x=mf) w wy) (fun v _=>N.length - (intOf v).toNat)
     case atStart=>exact⟨0,Nat.zero_le _,rfl,hQ.o.same (fun x=>by simp) (fun _=>rfl),hG.o⟩
     case round=>
      clear hQ hG;obtain⟨i,hi,rfl,hE,hD⟩:=hrel;have hX:=kH.o;by_cases hC:i<N.length
      ·have t1:decide ((i:Int)<(N.length:Int))=true:=(by simp;omega);have hP:wrap64 ((i:Int)+1)=((i+1:Nat):Int):=Ba (by omega);have HM:=Hd (Bg hC);have hT:Z9 (i+1<=N.length):=Hd hC;have hG:=Hd hD;obtain⟨nb,no,hW,-,hJ⟩:=kG.o _ hD;have hA:=hW (by omega);subst hA;have z0:=hJ i hC;have hH:=fun x=>Ja9 hC x;have hu:=kI.o _ (List.getElem_mem hC);have hF:c (N[i]'hC)+cI (N.drop i) (N[i]'hC)<=9000000000000000000:=by
        have h1:=HB.o (N[i]'hC);have h2:=kF.o;have h3:cI (N.drop i) (N[i]'hC)<=cI N (N[i]'hC):=(List.drop_sublist i N).countP_le;omega
       generalize (N[i]'hC)=s at z0 hH hu hF;have kD:1<=cI (N.drop i) s:=(by rw[hH,if_pos rfl];omega);obtain⟨v1,hY⟩:∃v1,v1=c s+cI (N.drop i) s:=⟨_,rfl⟩;obtain⟨v2,kE⟩:∃v2,v2=v1 - 1:=⟨_,rfl⟩;have lk:(Instr.lookup 185 (.map (some mb)) (.string s) false).run Tryz.prog wr=.ok (.int .i64 (v1:Int)) wr:=(by rw[hY];exact hE.look s hu.2);obtain⟨y0,-⟩:=hE.cell;have kS:wrap64 ((v1:Int) - 1)=(v2:Int):=(by rw[J0 (by omega) (by omega)];omega);obtain⟨w3,kR,hO,hM⟩:=hE.put HU.o s hu.1 hu.2 v2;have hV:Z9 (Fp U w3 g mb mf (fun x=>c x+cI (N.drop (i+1)) x) (fun x=>S x || (decide (c x+cI N x=0) && Gy x ps))):=Hd (hO.same (fun x=>by
        by_cases e:s=x
        ·subst e;have h9:=hH s;rw[if_pos rfl]at h9 ⊢;omega
        ·have h9:=hH x;rw[if_neg e]at h9 ⊢;omega) fun _=>rfl)
       have hR:Z9 (Ad (fun x=>x=mb\/x=mf) w w3):=Hd (hD.trans hM fun x h=>.inl (.inl h));have i1:(0:Int)<=(i:Int):=(by omega);have i2:(i:Int)<(N.length:Int):=(by omega);clear hi hE hD hJ hW hH hu hF hO hM hX kD hY kE;go_wp2_with fail;refine⟨⟨i+1,hT.o,by first|rfl|rw[hP],hV.o,hR.o⟩,?_⟩;first|exact HM.o|(rw[hP];exact HM.o)
      ·have t1:decide ((i:Int)<(N.length:Int))=false:=(by simp;omega);obtain rfl:i=N.length:=by omega
       have hQ:Z9 (Fp U wr g mb mf c (fun x=>S x || (decide (c x=0) && (!Dc N x && Gy x ps)))):=Hd (hE.same (fun x=>by simp[cI]) fun x=>by
        have h:=Jd7 N x;by_cases h1:c x=0
        ·rw[h1,Nat.zero_add,h];simp
        ·have:¬ (c x+cI N x=0):=by omega
         simp[h1])
       have hG:=Hd hD;clear hi hC hE hD hX;go_wp2_with fail
       go_end0
       exact⟨rfl,hQ.o,hG.o⟩
structure P7 (P:Nat->Prop) (w:World) (g:Nat) (l:Bx):Prop where
 lt:g<w.heap.size
 cell:∀y,y<l.length*8->∃v,w.cell? ⟨g,y,none⟩=some v
 free:∀y,w.frozen? ⟨g,y,none⟩=false
 reps:∀i (h:i<l.length),w.cell? ⟨g,i*8,none⟩=some (.string l[i].1)/\w.cell? ⟨g,i*8+1,none⟩=some (.int .i64 l[i].2.1)/\l[i].1.size<=1000000000000000/\∃cs,Aw P w l[i].2.2 cs/\∀j u,cs[j]?=some u->w.cell? ⟨g,i*8+2+j,none⟩=some u
theorem P7.weak {P P':Nat->Prop}{w:World}{g:Nat}{l:Bx}(h:P7 P w g l) (hp:∀x,P x->P' x):P7 P' w g l:=
 ⟨h.lt,h.cell,h.free,fun i hi=>by obtain⟨h1,h2,h3,cs,h4,h5⟩:=h.reps i hi;exact⟨h1,h2,h3,cs,h4.weak hp,h5⟩⟩
theorem P7.but {P O:Nat->Prop}{w w':World}{g:Nat}{l:Bx}(h:P7 P w g l) (hb:Ad O w w') (hg:¬ O g) (hp:∀x,P x->¬ O x):P7 P w' g l:=
 ⟨Nat.lt_of_lt_of_le h.lt hb.size,fun y hy=>by obtain⟨v,hv⟩:=h.cell y hy;exact⟨v,hb.cell hg hv⟩,fun y=>Jr (hb.block g h.lt hg) (h.free y),
  fun i hi=>by obtain⟨h1,h2,h3,cs,h4,h5⟩:=h.reps i hi;exact⟨hb.cell hg h1,hb.cell hg h2,h3,cs,h4.but hb fun x hx=>⟨hp x hx,hx⟩,fun j u hj=>hb.cell hg (h5 j u hj)⟩⟩
theorem P7.set {P:Nat->Prop}{w:World}{g i:Nat}{l:Bx}{t:Ty}{v0 v1 v2 v3 v4 v5:Value}(h:P7 P w g l) (hP:∀x,P x->x≠g) (hi:i<l.length) (ht:Aw P w t [v0,v1,v2,v3,v4,v5]):P7 P (Ey w g (i*8+2) v0 v1 v2 v3 v4 v5) g (l.set i ((l[i]'hi).1,(l[i]'hi).2.1,t)):=by
 refine⟨by rw[Kh];exact h.lt,fun y hy=>?_,fun y=>?_,fun k hk=>?_⟩
 ·rw[List.length_set]at hy;exact Br (Br (Br (Br (Br (Br (h.cell y hy))))))
 ·simp only[Ey,World.frozen?_setCell];exact h.free y
 ·rw[List.length_set]at hk;obtain⟨h1,h2,h3,cs,h4,h5⟩:=h.reps k hk;have h6:=h4.six;have f1:(Ey w g (i*8+2) v0 v1 v2 v3 v4 v5).cell? ⟨g,k*8,none⟩=w.cell? ⟨g,k*8,none⟩:=Ib (.inr (by show k*8<i*8+2\/i*8+2+6<=k*8;omega));have f2:(Ey w g (i*8+2) v0 v1 v2 v3 v4 v5).cell? ⟨g,k*8+1,none⟩=w.cell? ⟨g,k*8+1,none⟩:=Ib (.inr (by show k*8+1<i*8+2\/i*8+2+6<=k*8+1;omega));by_cases e:i=k
  ·subst e;rw[f1,f2];simp only[List.getElem_set_self];exact⟨h1,h2,h3,_,Jx hP ht,fun j u hj=>Pw (fun x hx=>h.cell _ (by omega)) j u hj⟩
  ·rw[f1,f2];simp only[List.getElem_set_ne e];refine⟨h1,h2,h3,cs,Jx hP h4,fun j u hj=>?_⟩;have hA:=(List.getElem?_eq_some_iff.1 hj).1;rw[Ib (.inr (by show k*8+2+j<i*8+2\/i*8+2+6<=k*8+2+j;omega))];exact h5 j u hj
theorem P7.list {P:Nat->Prop}{w:World}{g c:Nat}{l:Bx}(h:P7 P w g l) (hc:l.length<=c) (hl:l.length<=1000000000000000):Dt (fun x=>P x\/x=g) w l (some ⟨g,0,none⟩) c:=
 ⟨g,0,⟨hc,hl,(fun h=>by cases h),fun _=>⟨rfl,.inr rfl⟩⟩,fun i hi=>by
  obtain⟨h1,h2,h3,cs,h4,h5⟩:=h.reps i hi;refine⟨by rw[Nat.zero_add];exact h1,by rw[Nat.zero_add];exact h2,h3,cs,fun j u hj=>by rw[Nat.zero_add];exact h5 j u hj,h4.weak fun b hb=>.inl hb⟩⟩
theorem Qt {K:Nat->Prop}{w:World}{b o:Nat}:∀ {l:Bx}(_:∀i (h:i<l.length),w.cell? ⟨b,o+i*8,none⟩=some (.string l[i].1)/\w.cell? ⟨b,o+i*8+1,none⟩=some (.int .i64 l[i].2.1)/\l[i].1.size<=1000000000000000/\De K w l[i].2.2 b (o+i*8+2)) (n:Nat),n<=l.length ->
  ∃news:List Value,news.length=n*8/\(∀j u,news[j]?=some u->w.cell? ⟨b,o+j,none⟩=some u)/\(∀u∈news,u.oneCell'=true)/\∀i (h:i<l.length),i<n->news[i*8]?=some (.string l[i].1)/\news[i*8+1]?=some (.int .i64 l[i].2.1)/\∃cs,Aw K w l[i].2.2 cs/\∀j u,cs[j]?=some u->news[i*8+2+j]?=some u:=by
 intro l h n
 induction n with
 | zero=>intro _;exact⟨[],rfl,fun j u h=>by simp at h,fun u h=>by simp at h,fun i _ h=>absurd h (by omega)⟩
 | succ n ih=>
  intro hn;obtain⟨news,h1,h2,h3,h4⟩:=ih (by omega);obtain⟨hs,hi,-,cs,h5,h6⟩:=h n (by omega);have h7:=h6.six;refine⟨news++(.string (l[n]'(by omega)).1 :: .int .i64 (l[n]'(by omega)).2.1 :: cs),by rw[List.length_append,List.length_cons,List.length_cons];omega,fun j u hj=>?_,fun u hu=>?_,fun i hB hC=>?_⟩
  ·by_cases hA:j<news.length
   ·rw[List.getElem?_append_left hA]at hj;exact h2 j u hj
   ·rw[List.getElem?_append_right (by omega)]at hj;obtain⟨q,hq⟩:∃q,q=j - news.length:=⟨_,rfl⟩;rw[<-hq]at hj;rcases q with _|_|q
    ·obtain rfl:Value.string _=u:=by simpa using hj
     rw[<-hs];congr 2;omega
    ·obtain rfl:Value.int .i64 _=u:=by simpa using hj
     rw[<-hi];congr 2;omega
    ·rw[List.getElem?_cons_succ,List.getElem?_cons_succ]at hj;have:=h5 _ _ hj;rw[<-this];congr 2;omega
  ·rcases List.mem_append.1 hu with hu|hu
   ·exact h3 u hu
   ·rcases List.mem_cons.1 hu with rfl|hu
    ·rfl
    ·rcases List.mem_cons.1 hu with rfl|hu
     ·rfl
     ·exact Oz h6 u hu
  ·by_cases hA:i<n
   ·obtain⟨e1,e2,cs',h8,h9⟩:=h4 i hB hA;have lift:∀j u,news[j]?=some u->(news++(.string (l[n]'(by omega)).1 :: .int .i64 (l[n]'(by omega)).2.1 :: cs))[j]?=some u:=fun j u hj=>by
     rw[List.getElem?_append_left (List.getElem?_eq_some_iff.1 hj).1];exact hj
    exact⟨lift _ _ e1,lift _ _ e2,cs',h8,fun j u hj=>lift _ _ (h9 j u hj)⟩
   ·obtain rfl:i=n:=by omega
    refine⟨?_,?_,cs,h6,fun j u hj=>?_⟩
    ·rw[List.getElem?_append_right (by omega),show i*8 - news.length=0 from by omega];rfl
    ·rw[List.getElem?_append_right (by omega),show i*8+1 - news.length=1 from by omega];rfl
    ·rw[List.getElem?_append_right (by omega),show i*8+2+j - news.length=j+2 from by omega,List.getElem?_cons_succ,List.getElem?_cons_succ];exact hj
theorem Pf {K:Nat->Prop}{w:World}{l:Bx}{b o c:Nat}(hL:∀i (h:i<l.length),w.cell? ⟨b,o+i*8,none⟩=some (.string l[i].1)/\w.cell? ⟨b,o+i*8+1,none⟩=some (.int .i64 l[i].2.1)/\l[i].1.size<=1000000000000000/\De K w l[i].2.2 b (o+i*8+2)) (hn:l.length<=1000000) :
  Calls Tryz.prog 67 #[.slice (some ⟨b,o,none⟩) l.length c] w fun e w'=>∃g c',e=.returned (.slice (some ⟨g,0,none⟩) l.length c')/\w.heap.size<=g/\l.length<=c'/\P7 K w' g l/\Below w.heap.size w w':=by
 obtain⟨news,h1,h2,h3,h4⟩:=Qt hL l.length (Nat.le_refl _);refine (Qf ⟨b,o,none⟩ l.length c news w hn h1 h3 fun j u hj=>?_).mono ?_
 ·have e2:((⟨b,o,none⟩:Addr).add j)=⟨b,o+j,none⟩:=by unfold Addr.add;by_cases h0:j=0 <;> simp[h0]
  rw[e2];exact h2 j u hj
 ·rintro e w' ⟨g,c',rfl,hg,hD,hc,hC,hb⟩;refine⟨g,c',rfl,hg,hc,?_,hb⟩;rcases hC.2 with ⟨hv,hz⟩|⟨g',cap,cur,hv,hB,hh,hH,hE,hI,hF⟩
  ·cases hv
  ·injection hv with hv _ _
   injection hv with hv
   injection hv with hv
   subst hv;have hA:∀y u,news[y]?=some u->w'.cell? ⟨g,y,none⟩=some u:=fun y u hy=>by
    rw[<-hF,List.getElem?_take]at hy
    split at hy
    ·rw[Ch hh];simpa using hy
    ·cases hy
   refine⟨hD,fun y hy=>?_,fun y=>Lib.frozen_of_heap hh y,fun i hi=>?_⟩
   ·have hG:y<news.length:=(by omega);exact⟨news[y],hA y _ (List.getElem?_eq_getElem hG)⟩
   ·obtain⟨e1,e2,cs,h5,h6⟩:=h4 i hi hi;exact⟨hA _ _ e1,hA _ _ e2,(hL i hi).2.2.1,cs,h5.later hb,fun j u hj=>hA _ u (h6 j u hj)⟩
theorem R8 {w:World}{B n c z g:Nat}{T:TypeId}{xs:List Value}(h:w.ownsRow B T z (.slice (some ⟨g,0,none⟩) n c) n xs):∀y,w.frozen? ⟨g,y,none⟩=false:=fun y=>by
 rcases h.2 with ⟨hv,hz⟩|⟨g',cap,cur,hv,hB,hh,r⟩
 ·cases hv
 ·injection hv with hv _ _
  injection hv with hv
  injection hv with hv
  subst hv;exact Lib.frozen_of_heap hh y
theorem Qg {K:Nat->Prop}{w:World}{l:List Ty}{A:Option Addr}{c:Nat}(hL:Bk K w l A c) (hn:l.length<=1000000) :
  Calls Tryz.prog 66 #[.slice A l.length c] w fun e w'=>∃A' c',e=.returned (.slice A' l.length c')/\Below w.heap.size w w'/\((l=[]/\A'=none/\c'=0)\/∃g,A'=some ⟨g,0,none⟩/\w.heap.size<=g/\l.length<=c'/\PlT K w' g l):=by
 by_cases h0:0<l.length
 ·obtain⟨b,o,rfl,-,hC⟩:=hL.at h0;refine (Qh hC hn).mono ?_;rintro e w' ⟨g,c',rfl,h1,h2,h3,h4⟩;exact⟨_,c',rfl,h4,.inr ⟨g,rfl,h1,h2,h3⟩⟩
 ·have hl:l=[]:=List.eq_nil_of_length_eq_zero (by omega);subst hl;obtain⟨b,o,hB,-⟩:=hL;rcases A with _|ad
  ·obtain rfl:=hB.none rfl;refine (Jm w).mono ?_;rintro e w' ⟨rfl,rfl⟩;exact⟨none,0,rfl,Below.refl _ _,.inl ⟨rfl,rfl,rfl⟩⟩
  ·refine (Md ad 0 c [] w (by omega) rfl (fun u hu=>by cases hu) fun j u hj=>by simp at hj).mono ?_;rintro e w' ⟨g,c',rfl,hg,hD,hc,hA,hb⟩;exact⟨_,c',rfl,hb,.inr ⟨g,rfl,hg,hc,⟨hD,fun y hy=>absurd hy (by simp),R8 hA,fun i hi=>absurd hi (by simp)⟩⟩⟩
theorem Np {K:Nat->Prop}{w:World}{l:Bx}{A:Option Addr}{c:Nat}(hL:Dt K w l A c) (hn:l.length<=1000000) :
  Calls Tryz.prog 67 #[.slice A l.length c] w fun e w'=>∃A' c',e=.returned (.slice A' l.length c')/\Below w.heap.size w w'/\((l=[]/\A'=none/\c'=0)\/∃g,A'=some ⟨g,0,none⟩/\w.heap.size<=g/\l.length<=c'/\P7 K w' g l):=by
 by_cases h0:0<l.length
 ·obtain⟨b,o,rfl,-,hC⟩:=hL.at h0;refine (Pf hC hn).mono ?_;rintro e w' ⟨g,c',rfl,h1,h2,h3,h4⟩;exact⟨_,c',rfl,h4,.inr ⟨g,rfl,h1,h2,h3⟩⟩
 ·have hl:l=[]:=List.eq_nil_of_length_eq_zero (by omega);subst hl;obtain⟨b,o,hB,-⟩:=hL;rcases A with _|ad
  ·obtain rfl:=hB.none rfl;refine (Pg w).mono ?_;rintro e w' ⟨rfl,rfl⟩;exact⟨none,0,rfl,Below.refl _ _,.inl ⟨rfl,rfl,rfl⟩⟩
  ·refine (Qf ad 0 c [] w (by omega) rfl (fun u hu=>by cases hu) fun j u hj=>by simp at hj).mono ?_;rintro e w' ⟨g,c',rfl,hg,hD,hc,hA,hb⟩;exact⟨_,c',rfl,hb,.inr ⟨g,rfl,hg,hc,⟨hD,fun y hy=>absurd hy (by simp),R8 hA,fun i hi=>absurd hi (by simp)⟩⟩⟩
theorem Vb {k:Int}(h:k≠14):(Ak k).f=false:=by
 unfold Ak
 repeat' split
 all_goals first|rfl|(exfalso;omega)
theorem Ly {k:Int}(h:k≠13):(Ak k).v=false:=by
 unfold Ak
 repeat' split
 all_goals first|rfl|(exfalso;omega)
theorem Jbx (k:Int) (t:Z8) (n:Int) (ps:List Ty) (fs:Bx) (vs:Bt) (hp:∀p∈ps,Ae p) (hf:∀f∈fs,Ae f.2.2) (hv:∀v∈vs,∀b∈v.2,Ae b) (hB:k≠14) (hC:0<fs.length):Ae (.mk k t n ps fs vs):=by
 refine Bb k t n ps fs vs hp hf hv fun K w A c A' c' A'' c'' w1 h=>?_;obtain⟨HXC,KAll,KPl,KNm,KOb,KBi,KOv,HREP,HCN,HBZ,HB,HS1,HX0,HW1,hlp,hlf,hlv⟩:=h;clear hp hf hv;have hA:Z9 (Aj (.mk k t n ps fs vs)=false):=Hd (by
  rw[Ay];unfold Ao;rw[Vb hB];have h0:decide (0<fs.length)=true:=decide_eq_true hC;simp[h0])
 have g1:(k == 14)=false:=by simpa using hB
 have f1:decide ((0:Int)<(fs.length:Int))=true:=decide_eq_true (by omega);have f2:decide (0<fs.length)=true:=decide_eq_true (by omega);clear hC;go_enter Tryz.func38,Tryz.ntmps38;go_upto_region 1 with fail
 rw[<-HW1.o];obtain⟨x0,x1,x2,x3,x4,x5⟩:=HXC.o _ HB.o;go_wp2_with fail;go_ret
 exact⟨by rw[hA.o];rfl,HBZ.o.trans (HB.o.mono HBZ.o.size)⟩
theorem Jbz (k:Int) (t:Z8) (n:Int) (ps:List Ty) (fs:Bx) (vs:Bt) (hp:∀p∈ps,Ae p) (hf:∀f∈fs,Ae f.2.2) (hv:∀v∈vs,∀b∈v.2,Ae b) (hD:k≠14) (hE:fs.length=0) (hB:k≠13) (hC:0<vs.length):Ae (.mk k t n ps fs vs):=by
 refine Bb k t n ps fs vs hp hf hv fun K w A c A' c' A'' c'' w1 h=>?_;obtain⟨HXC,KAll,KPl,KNm,KOb,KBi,KOv,HREP,HCN,HBZ,HB,HS1,HX0,HW1,hlp,hlf,hlv⟩:=h;clear hp hf hv;have hA:Z9 (Aj (.mk k t n ps fs vs)=false):=Hd (by
  rw[Ay];unfold Ao;rw[Ly hB];have h0:decide (0<vs.length)=true:=decide_eq_true hC;simp[h0])
 have g1:(k == 14)=false:=by simpa using hD
 have f1:decide ((0:Int)<(fs.length:Int))=false:=decide_eq_false (by omega);have f2:decide (0<fs.length)=false:=decide_eq_false (by omega);have g2:(k == 13)=false:=by simpa using hB
 have f3:decide ((0:Int)<(vs.length:Int))=true:=decide_eq_true (by omega);have f4:decide (0<vs.length)=true:=decide_eq_true (by omega);clear hE hC;go_enter Tryz.func38,Tryz.ntmps38;go_upto_region 1 with fail
 rw[<-HW1.o];obtain⟨x0,x1,x2,x3,x4,x5⟩:=HXC.o _ HB.o;go_wp2_with fail;go_ret
 exact⟨by rw[hA.o];rfl,HBZ.o.trans (HB.o.mono HBZ.o.size)⟩
theorem Wq (t:Z8) (n:Int) (ps:List Ty) (fs:Bx) (vs:Bt) (hp:∀p∈ps,Ae p) (hf:∀f∈fs,Ae f.2.2) (hv:∀v∈vs,∀b∈v.2,Ae b) (hB:0<vs.length):Ae (.mk 14 t n ps fs vs):=by
 refine Bb 14 t n ps fs vs hp hf hv fun K w A c A' c' A'' c'' w1 h=>?_;obtain⟨HXC,KAll,KPl,KNm,KOb,KBi,KOv,HREP,HCN,HBZ,HB,HS1,HX0,HW1,hlp,hlf,hlv⟩:=h;clear hp hf hv;have hA:Z9 (Aj (.mk 14 t n ps fs vs)=false):=Hd (by
  have hC:(14:Int)≠13:=by decide
  rw[Ay];unfold Ao;rw[Ly hC];have h0:decide (0<vs.length)=true:=decide_eq_true hB;simp[h0])
 have f3:decide ((0:Int)<(vs.length:Int))=true:=decide_eq_true (by omega);have f4:decide (0<vs.length)=true:=decide_eq_true (by omega);clear hB;go_enter Tryz.func38,Tryz.ntmps38;go_upto_region 1 with fail
 rw[<-HW1.o];obtain⟨x0,x1,x2,x3,x4,x5⟩:=HXC.o _ HB.o;go_wp2_with fail;go_ret
 exact⟨by rw[hA.o];rfl,HBZ.o.trans (HB.o.mono HBZ.o.size)⟩
theorem Jb0 (k:Int) (t:Z8) (n:Int) (ps:List Ty) (fs:Bx) (vs:Bt) (hp:∀p∈ps,Ae p) (hf:∀f∈fs,Ae f.2.2) (hv:∀v∈vs,∀b∈v.2,Ae b) (hE:k≠14) (hF:fs.length=0) (hD:k≠13) (hG:vs.length=0) (hB:ps.all Aj=false):Ae (.mk k t n ps fs vs):=by
 refine Bb k t n ps fs vs hp hf hv fun K w A c A' c' A'' c'' w1 h=>?_;obtain⟨HXC,KAll,KPl,KNm,KOb,KBi,KOv,HREP,HCN,HBZ,HB,HS1,HX0,HW1,hlp,hlf,hlv⟩:=h;clear hp hf hv;have hA:Z9 (Aj (.mk k t n ps fs vs)=false):=Hd (by
  rw[Ay,hB,Bool.and_false])
 have g1:(k == 14)=false:=by simpa using hE
 have f1:decide ((0:Int)<(fs.length:Int))=false:=decide_eq_false (by omega);have f2:decide (0<fs.length)=false:=decide_eq_false (by omega);have g2:(k == 13)=false:=by simpa using hD
 have f3:decide ((0:Int)<(vs.length:Int))=false:=decide_eq_false (by omega);have f4:decide (0<vs.length)=false:=decide_eq_false (by omega);rw[hB]at KAll;clear hF hG hB;go_enter Tryz.func38,Tryz.ntmps38;go_upto_region 1 with fail
 rw[<-HW1.o];obtain⟨x0,x1,x2,x3,x4,x5⟩:=HXC.o _ HB.o;go_wp2_with fail;refine (KAll.o _ HB.o).mono ?_;rintro e w2 ⟨rfl,hb⟩;have hC:=Hd (HB.o.trans (hb.mono HB.o.size));clear hb;clear x0 x1 x2 x3 x4 x5;obtain⟨x0,x1,x2,x3,x4,x5⟩:=HXC.o _ hC.o;go_wp2_with fail;go_ret
 exact⟨by rw[hA.o];rfl,HBZ.o.trans (hC.o.mono HBZ.o.size)⟩
theorem Ws (t:Z8) (n:Int) (ps:List Ty) (fs:Bx) (vs:Bt) (hp:∀p∈ps,Ae p) (hf:∀f∈fs,Ae f.2.2) (hv:∀v∈vs,∀b∈v.2,Ae b) (hD:vs.length=0) (hB:ps.all Aj=false):Ae (.mk 14 t n ps fs vs):=by
 refine Bb 14 t n ps fs vs hp hf hv fun K w A c A' c' A'' c'' w1 h=>?_;obtain⟨HXC,KAll,KPl,KNm,KOb,KBi,KOv,HREP,HCN,HBZ,HB,HS1,HX0,HW1,hlp,hlf,hlv⟩:=h;clear hp hf hv;have hA:Z9 (Aj (.mk 14 t n ps fs vs)=false):=Hd (by
  rw[Ay,hB,Bool.and_false])
 have f3:decide ((0:Int)<(vs.length:Int))=false:=decide_eq_false (by omega);have f4:decide (0<vs.length)=false:=decide_eq_false (by omega);rw[hB]at KAll;clear hD hB;go_enter Tryz.func38,Tryz.ntmps38;go_upto_region 1 with fail
 rw[<-HW1.o];obtain⟨x0,x1,x2,x3,x4,x5⟩:=HXC.o _ HB.o;go_wp2_with fail;refine (KAll.o _ HB.o).mono ?_;rintro e w2 ⟨rfl,hb⟩;have hC:=Hd (HB.o.trans (hb.mono HB.o.size));clear hb;clear x0 x1 x2 x3 x4 x5;obtain⟨x0,x1,x2,x3,x4,x5⟩:=HXC.o _ hC.o;go_wp2_with fail;go_ret
 exact⟨by rw[hA.o];rfl,HBZ.o.trans (hC.o.mono HBZ.o.size)⟩
theorem Wr (t:Z8) (n:Int) (ps:List Ty) (fs:Bx) (vs:Bt) (hp:∀p∈ps,Ae p) (hf:∀f∈fs,Ae f.2.2) (hv:∀v∈vs,∀b∈v.2,Ae b) (hD:fs.length=0) (hB:ps.all Aj=false):Ae (.mk 13 t n ps fs vs):=by
 refine Bb 13 t n ps fs vs hp hf hv fun K w A c A' c' A'' c'' w1 h=>?_;obtain⟨HXC,KAll,KPl,KNm,KOb,KBi,KOv,HREP,HCN,HBZ,HB,HS1,HX0,HW1,hlp,hlf,hlv⟩:=h;clear hp hf hv;have hA:Z9 (Aj (.mk 13 t n ps fs vs)=false):=Hd (by
  rw[Ay,hB,Bool.and_false])
 have f1:decide ((0:Int)<(fs.length:Int))=false:=decide_eq_false (by omega);have f2:decide (0<fs.length)=false:=decide_eq_false (by omega);rw[hB]at KAll;clear hD hB;go_enter Tryz.func38,Tryz.ntmps38;go_upto_region 1 with fail
 rw[<-HW1.o];obtain⟨x0,x1,x2,x3,x4,x5⟩:=HXC.o _ HB.o;go_wp2_with fail;refine (KAll.o _ HB.o).mono ?_;rintro e w2 ⟨rfl,hb⟩;have hC:=Hd (HB.o.trans (hb.mono HB.o.size));clear hb;clear x0 x1 x2 x3 x4 x5;obtain⟨x0,x1,x2,x3,x4,x5⟩:=HXC.o _ hC.o;go_wp2_with fail;go_ret
 exact⟨by rw[hA.o];rfl,HBZ.o.trans (hC.o.mono HBZ.o.size)⟩
theorem Jby (k:Int) (t:Z8) (n:Int) (ps:List Ty) (fs:Bx) (vs:Bt) (hp:∀p∈ps,Ae p) (hf:∀f∈fs,Ae f.2.2) (hv:∀v∈vs,∀b∈v.2,Ae b) (h1:k≠1) (h2:k≠2) (h3:k≠3) (h4:k≠4) (h5:k≠5) (h6:k≠6) (h7:k≠7) (h8:k≠8) (h9:k≠9) (hD:k≠10) (hE:k≠11) (hF:k≠12) (hG:k≠13) (hH:k≠14) (hI:k≠15) (hJ:k≠16) (hK:k≠17) (hL:k≠18) (hM:k≠19) (hN:k≠20) (hO:k≠21) (hP:k≠22) (hQ:k≠23) (hR:fs.length=0) (hS:vs.length=0) (hC:ps.all Aj=true):Ae (.mk k t n ps fs vs):=by
 refine Bb k t n ps fs vs hp hf hv fun K w A c A' c' A'' c'' w1 h=>?_;obtain⟨HXC,KAll,KPl,KNm,KOb,KBi,KOv,HREP,HCN,HBZ,HB,HS1,HX0,HW1,hlp,hlf,hlv⟩:=h;clear hp hf hv;have hA:Z9 (Aj (.mk k t n ps fs vs)=false):=Hd (by
  rw[Ay];have hs:(Ak k).known=false:=by
   unfold Ak;rw[if_neg (by omega),if_neg (by omega),if_neg (by omega),if_neg (by omega),if_neg (by omega),if_neg (by omega),if_neg (by omega),if_neg (by omega),if_neg (by omega),if_neg (by omega),if_neg (by omega),if_neg (by omega)]
  rw[hs];simp)
 have g1:(k == 1)=false:=by simpa using h1
 have g2:(k == 2)=false:=by simpa using h2
 have g3:(k == 3)=false:=by simpa using h3
 have g4:(k == 4)=false:=by simpa using h4
 have g5:(k == 5)=false:=by simpa using h5
 have g6:(k == 6)=false:=by simpa using h6
 have g7:(k == 7)=false:=by simpa using h7
 have g8:(k == 8)=false:=by simpa using h8
 have g9:(k == 9)=false:=by simpa using h9
 have g10:(k == 10)=false:=by simpa using hD
 have g11:(k == 11)=false:=by simpa using hE
 have g12:(k == 12)=false:=by simpa using hF
 have g13:(k == 13)=false:=by simpa using hG
 have g14:(k == 14)=false:=by simpa using hH
 have g15:(k == 15)=false:=by simpa using hI
 have g16:(k == 16)=false:=by simpa using hJ
 have g17:(k == 17)=false:=by simpa using hK
 have g18:(k == 18)=false:=by simpa using hL
 have g19:(k == 19)=false:=by simpa using hM
 have g20:(k == 20)=false:=by simpa using hN
 have g21:(k == 21)=false:=by simpa using hO
 have g22:(k == 22)=false:=by simpa using hP
 have g23:(k == 23)=false:=by simpa using hQ
 obtain⟨f1,f2,f3,f4⟩:=F7 (m:=fs.length) (n:=vs.length) (by omega) (by omega);rw[hC]at KAll;clear hR hS hC;go_enter Tryz.func38,Tryz.ntmps38;go_upto_region 1 with fail
 rw[<-HW1.o];obtain⟨x0,x1,x2,x3,x4,x5⟩:=HXC.o _ HB.o;go_wp2_with fail;refine (KAll.o _ HB.o).mono ?_;rintro e w2 ⟨rfl,hb⟩;have hB:=Hd (HB.o.trans (hb.mono HB.o.size));clear hb;clear x0 x1 x2 x3 x4 x5;obtain⟨x0,x1,x2,x3,x4,x5⟩:=HXC.o _ hB.o;go_wp2_with fail;go_ret
 exact⟨by rw[hA.o];rfl,HBZ.o.trans (hB.o.mono HBZ.o.size)⟩
