import Derived.Test.YtlpfpehegddcfaaGreatDoorMx2
namespace Go.Proofs.YtlpfpehegddcfaaGreatDoor
set_option maxRecDepth 100000
set_option maxHeartbeats 64000000
open Go.RowKit
theorem Ha (a b c:Int):Fw (Fw a b) c=Fw a (Fw b c):=by
 unfold Fw;by_cases h:a=0 <;> simp[h]
def Gw (w w':World):Prop:=∃q os,w'=Go.Sort.grow (w.drewN q) os
theorem Gw.refl (w:World):Gw w w:=⟨0,#[],by rw[Go.Sort.grow_empty];rfl⟩
theorem V5 (w:World) (m n:Nat):(w.drewN m).drewN n=w.drewN (m+n):=by
 simp only[World.drewN,Nat.add_assoc]
theorem Gw.trans {a b c:World}(h:Gw a b) (h':Gw b c):Gw a c:=by
 obtain⟨q,os,rfl⟩:=h;obtain⟨q',os',rfl⟩:=h';refine⟨q+q',os++os',?_⟩;rw[<-V5,<-Go.Sort.grow_grow];rfl
theorem Gw.drew {a b:World}(h:Gw a b):Gw a b.drew:=h.trans ⟨1,#[],by rw[Go.Sort.grow_empty];rfl⟩
theorem Gw.alloc {a b:World}(h:Gw a b) (o:Obj):Gw a (b.alloc o):=h.trans ⟨0,#[o],by rw[Go.Sort.alloc_eq_grow];rfl⟩
theorem Gw.below {a b:World}(h:Gw a b):Below a.heap.size a b:=by
 obtain⟨q,os,rfl⟩:=h;exact⟨rfl,rfl,rfl,by simp[Go.Sort.grow,World.drewN],fun k hk=>by
  show (a.heap++os)[k]?=a.heap[k]?;rw[Array.getElem?_append_left hk]⟩
theorem X2 (W:World) (x y z:Int):(W.alloc (.cells #[.int .i64 x,.int .i64 y,.int .i64 z] 3)).drew.cell? ⟨W.heap.size,0,none⟩=some (.int .i64 x)/\(W.alloc (.cells #[.int .i64 x,.int .i64 y,.int .i64 z] 3)).drew.cell? ⟨W.heap.size,1,none⟩=some (.int .i64 y)/\(W.alloc (.cells #[.int .i64 x,.int .i64 y,.int .i64 z] 3)).drew.cell? ⟨W.heap.size,2,none⟩=some (.int .i64 z):=
 ⟨World.cell?_alloc_at _ _ _ _ rfl,World.cell?_alloc_at _ _ _ _ rfl,World.cell?_alloc_at _ _ _ _ rfl⟩
theorem Jc9 (W:World) (x y:Int):(W.alloc (.cells #[.int .i64 x,.int .i64 y] 3)).drew.cell? ⟨W.heap.size,0,none⟩=some (.int .i64 x)/\(W.alloc (.cells #[.int .i64 x,.int .i64 y] 3)).drew.cell? ⟨W.heap.size,1,none⟩=some (.int .i64 y):=
 ⟨World.cell?_alloc_at _ _ _ _ rfl,World.cell?_alloc_at _ _ _ _ rfl⟩
theorem Ev {n k:Nat}(h:n<k):k - (intOf (Value.int .i64 ((n:Int)+1))).toNat<k - (intOf (Value.int .i64 (n:Int))).toNat:=by
 simp only[intOf];omega
structure Vh (f:Nat) (R:World->Nat->Nat->Prop) (R':World->Nat->Nat->Prop) (c:Int):Prop where
 ok:∀(w:World) (b o b' o':Nat),R w b o->R' w b' o'->Calls Tryz.prog f #[.pointer (some ⟨b,o,none⟩),.pointer (some ⟨b',o',none⟩)] w fun e w'=>e=.returned (.int .i64 c)/\Gw w w'
theorem Vk {α:Type}(E:α->List Dy) (hE:∀x y,Bo (E x) (E y) (Ca (E x) (E y))) (R R':α->World->Nat->Nat->Prop) (hR:∀x w w' b o,Below w.heap.size w w'->R x w b o->R x w' b o) (hR':∀x w w' b o,Below w.heap.size w w'->R' x w b o->R' x w' b o)
  (l l':List α) (hl:∀x∈l,∀y,Vh 104 (R x) (R' y) (Ca (E x) (E y))) (A A':Option Addr) (c c':Nat) (w:World) (b o b' o':Nat) (hA:0<l.length->A=some ⟨b,o,none⟩) (hA':0<l'.length->A'=some ⟨b',o',none⟩) (hL:l.length<=1000000000000000) (_hlen':l'.length<=1000000000000000)
  (hx:∀i (h:i<l.length),R l[i] w b (o+i*6)) (hx':∀i (h:i<l'.length),R' l'[i] w b' (o'+i*6)) :
  Calls Tryz.prog 145 #[.slice A l.length c,.slice A' l'.length c',.func (.func 104) #[] #[]] w fun e w'=>e=.returned (.int .i64 (Ca (Fj E l) (Fj E l')))/\Gw w w':=by
 by_cases hD:l.length=l'.length
 case neg=>
  rw[Iy E hD];have tc:(Dp l.length l'.length != 0)=true:=by
   rw[bne_iff_ne];exact fun h=>hD (by have:=Im h;omega)
  have KC:=Hd (E8 (l.length:Int) (l'.length:Int));generalize Dp (l.length:Int) (l'.length:Int)=cz at tc KC;clear hD hx hx' hl hR hR' hA hA';go_enter Tryz.func145,Tryz.ntmps145;go_wp2_with fail;refine (KC.o _).mono ?_;rintro e w1 ⟨rfl,rfl⟩;go_wp2_with fail;go_ret
  exact⟨rfl,Gw.refl _⟩
 rw[He E hD];have HE:=Hd hE;have HR:=Hd hR;have HR':=Hd hR';have HO:=Hd hl;have HA:=Hd hA;have HA':=Hd hA';have HX:=Hd hx;have HX':=Hd hx';have hU:=Hd hL;have HQ:=Hd hD;have KC:=Hd (E8 (l.length:Int) (l'.length:Int));rw[show Dp (l.length:Int) (l'.length:Int)=0 from by rw[hD];exact Il _]at KC;generalize hM:C0 E l l' 0=res;have hP:=Hd hM;clear hE hR hR' hl hA hA' hx hx' hM;obtain⟨m,hm⟩:∃m,m=l.length:=⟨_,rfl⟩;obtain⟨m',hm'⟩:∃m',m'=l'.length:=⟨_,rfl⟩;rw[<-hm,<-hm']at hD KC;rw[<-hm,<-hm'];rw[<-hm]at hL hU;have HM:=Hd (And.intro hm hm');subst hD;clear _hlen' hm hm';go_enter Tryz.func145,Tryz.ntmps145;go_wp2_with fail;refine (KC.o _).mono ?_;rintro e w1 ⟨rfl,rfl⟩;go_wp2_with fail
 go_loopw [20] (fun v wr=>∃n:Nat,n<=m/\v=.int .i64 n/\Gw w wr/\C0 E l l' n=res) (fun v _=>m - (intOf v).toNat)
 case atStart=>exact⟨0,by omega,rfl,Gw.refl _,hP.o⟩
 case round=>
  obtain⟨n,hn,rfl,hb,hF⟩:=hrel;have HB:=Hd hb;have hI:=Hd hF;clear hb hF;by_cases hG:n<m
  case neg=>
   obtain rfl:n=m:=by omega
   have tl:decide ((n:Int)<(n:Int))=false:=by simp
   have h0:res=0:=by rw[<-hI.o,HM.o.1];exact Hc E HQ.o
   have H0:=Hd h0;clear hG h0;go_wp2_with fail;go_ret
   exact⟨by rw[H0.o];rfl,HB.o⟩
  have tl:decide ((n:Int)<(m:Int))=true:=by simp;omega
  have hN:n<l.length:=by rw[<-HM.o.1];exact hG
  have hQ:n<l'.length:=by rw[<-HM.o.2];exact hG
  have hA:=HA.o (by omega);have hA':=HA'.o (by omega);subst hA hA';have HL:=Hd hG;have hB:=Gh E HE.o HQ.o hN hQ;rw[hI.o]at hB;have K7:=Hd ((HO.o l[n] (List.getElem_mem hN) l'[n]).ok wr.drew b (o+n*6) b' (o'+n*6) (HR.o _ _ _ _ _ HB.o.drew.below (HX.o n hN)) (HR'.o _ _ _ _ _ HB.o.drew.below (HX'.o n hQ)));generalize Ca (E l[n]) (E l'[n])=c7 at hB K7;have hH:Z9 (c7=0->C0 E l l' (n+1)=res):=Hd fun h=>by rw[hB,h,Bn]
  have hJ:Z9 (c7≠0->res=c7):=Hd fun h=>by rw[hB,Dr h]
  have hV:n<m:=hG;clear hB hG hN hQ;go_wp2_with fail;go_wp2_with fail;refine wp_region_held_drew (S:=(fun _=>True)) (by kernel_rfl) trivial (fun hC=>?_);refine Ab.s [0,1,2,3,4,5,6] ?_
  iterate 7 (refine Ab.k (so rfl) hC ?_;try simp only[Act.put,Bd,Be,Bf])
  refine Ab.d ?_;refine wpAnyH_ready (rs:=[7]) (by kernel_rfl) (by simp) ?_;refine AllReadyH.cons (sd (some 30) rfl) (fun K hK=>?_) AllReadyH.nil;go_simp;refine K7.o.mono ?_;rintro e w7 ⟨rfl,hT⟩;have hS:=Hd hT;clear hT;go_wp2_with fail;refine hK.out _ _ (trivial) (fun hC=>?_);clear hK K;try simp only[Act.put,Bd,Be,Bf]
  refine Ab.s [8] ?_;refine Ab.k (so rfl) hC ?_;try simp only[Act.put,Bd,Be,Bf]
  refine Ab.d ?_;refine wpAnyH_done (by kernel_rfl) ?_ _;clear hC;by_cases hc:c7=0
  ·have tc:(c7 != 0)=false:=by simpa using hc
   have hO:=Hd (hH.o hc);clear hc;go_wp2_with fail;refine⟨⟨n+1,HL.o,by go_num,HB.o.drew.trans hS.o,hO.o⟩,?meas⟩
   case meas=>exact Ev HL.o
  ·have tc:(c7 != 0)=true:=by simpa using hc
   have hO:=Hd (hJ.o hc);clear hc;go_wp2_with fail;go_ret
   exact⟨by rw[<-hO.o];rfl,HB.o.drew.trans hS.o⟩
def O5:Nat->Z8->Z8
 | 0,s=>s
 | n+1,s=>if 0<s.size/\Df s (s.size - 1)=39 then O5 n (s.extract 0 (s.size - 1)) else s
def Ez (s:Z8):Z8:=O5 s.size s
def B6 (s:Z8):Bool:=Ok (Ez s)
theorem Vd {s:Z8}{m:Nat}(h:s.size=m+1) (hb:Df s m=39):Ez s=Ez (s.extract 0 m):=by
 have h2:(s.extract 0 m).size=m:=by rw[ByteArray.size_extract];omega
 unfold Ez;rw[h2,h,O5,if_pos ⟨by omega,by rw[h];exact hb⟩,h];rfl
theorem O6 {s:Z8}{m:Nat}(h:s.size=m+1) (hb:Df s m≠39):Ez s=s:=by
 unfold Ez;rw[h,O5,if_neg (fun hx=>hb (by have:=hx.2;rw[h]at this;exact this))]
theorem Kq {s:Z8}(h:s.size=0):Ez s=s:=by
 unfold Ez;rw[h];rfl
theorem H3 {n:Int}(h:0<=n) (h2:n<=1000000000000000000):wrap64 n=n:=by
 have e:IntKind.i64.wrap n=wrap64 n:=by unfold wrap64;exact IntKind.wrap_i64 n
 rw[<-e];simp[IntKind.wrap,IntKind.bits,IntKind.signed];omega
theorem Ng:∀n s,(O5 n s).size<=s.size
 | 0,_=>Nat.le_refl _
 | n+1,s=>by
  rw[O5]
  split
  ·refine Nat.le_trans (Ng n _) ?_;rw[ByteArray.size_extract];omega
  ·exact Nat.le_refl _
theorem Tx (s:Z8):(Ez s).size<=s.size:=Ng _ _
theorem Nb (t:Z8) {m:Nat}(h:t.size=m+1):(t.extract 0 m).size=m:=by rw[ByteArray.size_extract];omega
theorem Tz (s:Z8) (w:World) (hs:s.size<=1000000000000000) :
  Calls Tryz.prog 108 #[.string s,.int .u8 39] w fun e w'=>e=.returned (.string (Ez s))/\w'=w:=by
 go_enter Tryz.func108,Tryz.ntmps108;go_wp2_with fail
 go_loopw [0] (fun v wr=>∃t:Z8,v=.string t/\t.size<=s.size/\Ez t=Ez s/\wr=w) (fun v _=>match v with|.string t=>t.size|_=>0)
 case atStart=>exact⟨s,rfl,Nat.le_refl _,rfl,rfl⟩
 case round=>
  obtain⟨t,rfl,ht,hq,rfl⟩:=hrel;have HQ:=Hd hq;clear hq
  cases hm:t.size with
  | zero=>
   have HF:=Hd (Kq hm);go_wp2_with fail;go_ret
   exact⟨by rw[<-HQ.o,HF.o];rfl,rfl⟩
  | succ m=>
   have hb:=G0 t m (by omega);have HM:=Hd hm;have i0:(0:Int)<=(m:Int):=by omega
   have i1:(m:Int)<(m:Int)+1:=by omega
   have hD:wrap64 (((m+1:Nat):Int) - 1)=(m:Int):=by rw[H3 (by omega) (by omega)];omega
   have hC:wrap64 (m:Int)=(m:Int):=H3 (by omega) (by omega);have hB:=Hd (Nb t hm);by_cases hA:Df t m=39
   ·have HG:=Hd (Vd hm hA);have te:((Df t m:Int) == 39)=true:=(by simp;omega);have HT:=Hd ht;clear hA ht;generalize Df t m=bb at hb te;go_wp2_with fail;refine⟨⟨t.extract 0 m,by first|rfl|(rw[hC];rfl),by rw[hB.o];have:=HT.o;have:=HM.o;omega,by rw[<-HG.o,HQ.o],by first|rfl|trivial⟩,?_⟩;try rw[hC]
    show (t.extract 0 m).size<t.size;rw[hB.o,HM.o];omega
   ·have HF:=Hd (O6 hm hA);have te:((Df t m:Int) == 39)=false:=(by simp;omega);have te2:(Df t m == 39)=false:=(by simpa using hA);clear ht;generalize Df t m=bb at hb te te2 hA;go_wp2_with fail;go_ret
    exact⟨by rw[<-HQ.o,HF.o];rfl,rfl⟩
theorem Xj (s:Z8) (w:World) (hs:s.size<=1000000000000000) :
  Calls Tryz.prog 80 #[.string s,.string ⟨#[39]⟩] w fun e w'=>e=.returned (.string (Ez s))/\w'=w:=by
 cases hl:s.toList with
 | nil=>
  have HF:=Hd (Kq (M8 hl));have HQ:=Hd hl;go_enter Tryz.func80,Tryz.ntmps80;go_wp2_with fail;go_ret
  exact⟨by rw[HF.o];rfl,rfl⟩
 | cons a l=>
  have KT:=Hd (Tz s w hs);go_enter Tryz.func80,Tryz.ntmps80;go_wp2_with fail;refine KT.o.mono ?_;rintro e w1 ⟨rfl,rfl⟩;go_wp2_with fail;go_ret
  exact⟨rfl,rfl⟩
theorem Fb (s:Z8) (w:World) (hs:s.size<=1000000000000000) :
  Calls Tryz.prog 41 #[.string s] w fun e w'=>e=.returned (.bool (B6 s))/\Below w.heap.size w w':=by
 have KT:=Hd (Xj s w hs);have KI:=Hd (Rr (Ez s) w (Nat.le_trans (Tx s) hs));unfold B6;generalize Ok (Ez s)=r at KI ⊢;generalize Ez s=q at KT KI;go_enter Tryz.func41,Tryz.ntmps41;go_wp2_with fail;refine KT.o.mono ?_;rintro e w1 ⟨rfl,rfl⟩;go_wp2_with fail;refine KI.o.mono ?_;rintro e w2 ⟨rfl,hb⟩;have HB:=Hd hb;clear hb;go_wp2_with fail;go_ret
 exact⟨rfl,HB.o⟩
theorem Ju (s:Z8) (w:World) (hs:s.size<=1000000000000000) :
  Calls Tryz.prog 16 #[.string s] w fun e w'=>e=.returned (.bool (B6 s))/\Below w.heap.size w w':=by
 have KI:Z9 (∀t:Z8,t.size<=s.size->Ez t=t->Ez t=Ez s->Calls Tryz.prog 39 #[.string t] w fun e w'=>e=.returned (.bool (B6 s))/\Below w.heap.size w w'):=Hd fun t ht h1 h2=>by
  unfold B6;rw[<-h2,h1];exact Tf t w (Nat.le_trans ht hs)
 generalize B6 s=r at KI ⊢;go_enter Tryz.func16,Tryz.ntmps16;go_wp2_with fail
 go_loopw [0] (fun v wr=>∃t:Z8,v=.string t/\t.size<=s.size/\Ez t=Ez s/\wr=w) (fun v _=>match v with|.string t=>t.size|_=>0)
 case atStart=>exact⟨s,rfl,Nat.le_refl _,rfl,rfl⟩
 case round=>
  obtain⟨t,rfl,ht,hq,rfl⟩:=hrel;have HQ:=Hd hq;clear hq
  cases hm:t.size with
  | zero=>
   have KT:=Hd (KI.o t ht (Kq hm) HQ.o);clear ht;go_wp2_with fail;refine KT.o.mono ?_;rintro e w2 ⟨rfl,hb⟩;have HB:=Hd hb;clear hb;go_wp2_with fail;go_ret
   exact⟨rfl,HB.o⟩
  | succ m=>
   have hb:=G0 t m (by omega);have HM:=Hd hm;have i0:(0:Int)<=(m:Int):=by omega
   have i1:(m:Int)<(m:Int)+1:=by omega
   have hD:wrap64 (((m+1:Nat):Int) - 1)=(m:Int):=by rw[H3 (by omega) (by omega)];omega
   have hC:wrap64 (m:Int)=(m:Int):=H3 (by omega) (by omega);have hB:=Hd (Nb t hm);by_cases hA:Df t m=39
   ·have HG:=Hd (Vd hm hA);have te:((Df t m:Int) == 39)=true:=(by simp;omega);have HT:=Hd ht;clear hA ht;generalize Df t m=bb at hb te;go_wp2_with fail;refine⟨⟨t.extract 0 m,by first|rfl|(rw[hC];rfl),by rw[hB.o];have:=HT.o;have:=HM.o;omega,by rw[<-HG.o,HQ.o],by first|rfl|trivial⟩,?_⟩;try rw[hC]
    show (t.extract 0 m).size<t.size;rw[hB.o,HM.o];omega
   ·have KT:=Hd (KI.o t ht (O6 hm hA) HQ.o);have te:((Df t m:Int) == 39)=false:=(by simp;omega);have te2:(Df t m == 39)=false:=(by simpa using hA);clear ht;generalize Df t m=bb at hb te te2 hA;go_wp2_with fail;refine KT.o.mono ?_;rintro e w2 ⟨rfl,hb⟩;have HB:=Hd hb;clear hb;go_wp2_with fail;go_ret
    exact⟨rfl,HB.o⟩
theorem Sm {α:Type}(E:α->List Dy) (hE:∀x y,Bo (E x) (E y) (Ca (E x) (E y))) (R R':α->World->Nat->Nat->Prop) (hR:∀x w w' b o,Below w.heap.size w w'->R x w b o->R x w' b o) (hR':∀x w w' b o,Below w.heap.size w w'->R' x w b o->R' x w' b o)
  (l l':List α) (hl:∀x∈l,∀y,Vh 147 (R x) (R' y) (Ca (E x) (E y))) (A A':Option Addr) (c c':Nat) (w:World) (b o b' o':Nat) (hA:0<l.length->A=some ⟨b,o,none⟩) (hA':0<l'.length->A'=some ⟨b',o',none⟩) (hL:l.length<=1000000000000000) (_hlen':l'.length<=1000000000000000)
  (hx:∀i (h:i<l.length),R l[i] w b (o+i*8)) (hx':∀i (h:i<l'.length),R' l'[i] w b' (o'+i*8)) :
  Calls Tryz.prog 146 #[.slice A l.length c,.slice A' l'.length c',.func (.func 147) #[] #[]] w fun e w'=>e=.returned (.int .i64 (Ca (Fj E l) (Fj E l')))/\Gw w w':=by
 by_cases hD:l.length=l'.length
 case neg=>
  rw[Iy E hD];have tc:(Dp l.length l'.length != 0)=true:=by
   rw[bne_iff_ne];exact fun h=>hD (by have:=Im h;omega)
  have KC:=Hd (E8 (l.length:Int) (l'.length:Int));generalize Dp (l.length:Int) (l'.length:Int)=cz at tc KC;clear hD hx hx' hl hR hR' hA hA';go_enter Tryz.func146,Tryz.ntmps146;go_wp2_with fail;refine (KC.o _).mono ?_;rintro e w1 ⟨rfl,rfl⟩;go_wp2_with fail;go_ret
  exact⟨rfl,Gw.refl _⟩
 rw[He E hD];have HE:=Hd hE;have HR:=Hd hR;have HR':=Hd hR';have HO:=Hd hl;have HA:=Hd hA;have HA':=Hd hA';have HX:=Hd hx;have HX':=Hd hx';have hU:=Hd hL;have HQ:=Hd hD;have KC:=Hd (E8 (l.length:Int) (l'.length:Int));rw[show Dp (l.length:Int) (l'.length:Int)=0 from by rw[hD];exact Il _]at KC;generalize hM:C0 E l l' 0=res;have hP:=Hd hM;clear hE hR hR' hl hA hA' hx hx' hM;obtain⟨m,hm⟩:∃m,m=l.length:=⟨_,rfl⟩;obtain⟨m',hm'⟩:∃m',m'=l'.length:=⟨_,rfl⟩;rw[<-hm,<-hm']at hD KC;rw[<-hm,<-hm'];rw[<-hm]at hL hU;have HM:=Hd (And.intro hm hm');subst hD;clear _hlen' hm hm';go_enter Tryz.func146,Tryz.ntmps146;go_wp2_with fail;refine (KC.o _).mono ?_;rintro e w1 ⟨rfl,rfl⟩;go_wp2_with fail
 go_loopw [20] (fun v wr=>∃n:Nat,n<=m/\v=.int .i64 n/\Gw w wr/\C0 E l l' n=res) (fun v _=>m - (intOf v).toNat)
 case atStart=>exact⟨0,by omega,rfl,Gw.refl _,hP.o⟩
 case round=>
  obtain⟨n,hn,rfl,hb,hF⟩:=hrel;have HB:=Hd hb;have hI:=Hd hF;clear hb hF;by_cases hG:n<m
  case neg=>
   obtain rfl:n=m:=by omega
   have tl:decide ((n:Int)<(n:Int))=false:=by simp
   have h0:res=0:=by rw[<-hI.o,HM.o.1];exact Hc E HQ.o
   have H0:=Hd h0;clear hG h0;go_wp2_with fail;go_ret
   exact⟨by rw[H0.o];rfl,HB.o⟩
  have tl:decide ((n:Int)<(m:Int))=true:=by simp;omega
  have hN:n<l.length:=by rw[<-HM.o.1];exact hG
  have hQ:n<l'.length:=by rw[<-HM.o.2];exact hG
  have hA:=HA.o (by omega);have hA':=HA'.o (by omega);subst hA hA';have HL:=Hd hG;have hB:=Gh E HE.o HQ.o hN hQ;rw[hI.o]at hB;have K7:=Hd ((HO.o l[n] (List.getElem_mem hN) l'[n]).ok wr.drew b (o+n*8) b' (o'+n*8) (HR.o _ _ _ _ _ HB.o.drew.below (HX.o n hN)) (HR'.o _ _ _ _ _ HB.o.drew.below (HX'.o n hQ)));generalize Ca (E l[n]) (E l'[n])=c7 at hB K7;have hH:Z9 (c7=0->C0 E l l' (n+1)=res):=Hd fun h=>by rw[hB,h,Bn]
  have hJ:Z9 (c7≠0->res=c7):=Hd fun h=>by rw[hB,Dr h]
  have hV:n<m:=hG;clear hB hG hN hQ;go_wp2_with fail;go_wp2_with fail;refine wp_region_held_drew (S:=(fun _=>True)) (by kernel_rfl) trivial (fun hC=>?_);refine Ab.s [0,1,2,3,4,5,6] ?_
  iterate 7 (refine Ab.k (so rfl) hC ?_;try simp only[Act.put,Bd,Be,Bf])
  refine Ab.d ?_;refine wpAnyH_ready (rs:=[7]) (by kernel_rfl) (by simp) ?_;refine AllReadyH.cons (sd (some 30) rfl) (fun K hK=>?_) AllReadyH.nil;go_simp;refine K7.o.mono ?_;rintro e w7 ⟨rfl,hT⟩;have hS:=Hd hT;clear hT;go_wp2_with fail;refine hK.out _ _ (trivial) (fun hC=>?_);clear hK K;try simp only[Act.put,Bd,Be,Bf]
  refine Ab.s [8] ?_;refine Ab.k (so rfl) hC ?_;try simp only[Act.put,Bd,Be,Bf]
  refine Ab.d ?_;refine wpAnyH_done (by kernel_rfl) ?_ _;clear hC;by_cases hc:c7=0
  ·have tc:(c7 != 0)=false:=by simpa using hc
   have hO:=Hd (hH.o hc);clear hc;go_wp2_with fail;refine⟨⟨n+1,HL.o,by go_num,HB.o.drew.trans hS.o,hO.o⟩,?meas⟩
   case meas=>exact Ev HL.o
  ·have tc:(c7 != 0)=true:=by simpa using hc
   have hO:=Hd (hJ.o hc);clear hc;go_wp2_with fail;go_ret
   exact⟨by rw[<-hO.o];rfl,HB.o.drew.trans hS.o⟩
theorem Xv {α:Type}(E:α->List Dy) (hE:∀x y,Bo (E x) (E y) (Ca (E x) (E y))) (R R':α->World->Nat->Nat->Prop) (hR:∀x w w' b o,Below w.heap.size w w'->R x w b o->R x w' b o) (hR':∀x w w' b o,Below w.heap.size w w'->R' x w b o->R' x w' b o)
  (l l':List α) (hl:∀x∈l,∀y,Vh 149 (R x) (R' y) (Ca (E x) (E y))) (A A':Option Addr) (c c':Nat) (w:World) (b o b' o':Nat) (hA:0<l.length->A=some ⟨b,o,none⟩) (hA':0<l'.length->A'=some ⟨b',o',none⟩) (hL:l.length<=1000000000000000) (_hlen':l'.length<=1000000000000000)
  (hx:∀i (h:i<l.length),R l[i] w b (o+i*2)) (hx':∀i (h:i<l'.length),R' l'[i] w b' (o'+i*2)) :
  Calls Tryz.prog 148 #[.slice A l.length c,.slice A' l'.length c',.func (.func 149) #[] #[]] w fun e w'=>e=.returned (.int .i64 (Ca (Fj E l) (Fj E l')))/\Gw w w':=by
 by_cases hD:l.length=l'.length
 case neg=>
  rw[Iy E hD];have tc:(Dp l.length l'.length != 0)=true:=by
   rw[bne_iff_ne];exact fun h=>hD (by have:=Im h;omega)
  have KC:=Hd (E8 (l.length:Int) (l'.length:Int));generalize Dp (l.length:Int) (l'.length:Int)=cz at tc KC;clear hD hx hx' hl hR hR' hA hA';go_enter Tryz.func148,Tryz.ntmps148;go_wp2_with fail;refine (KC.o _).mono ?_;rintro e w1 ⟨rfl,rfl⟩;go_wp2_with fail;go_ret
  exact⟨rfl,Gw.refl _⟩
 rw[He E hD];have HE:=Hd hE;have HR:=Hd hR;have HR':=Hd hR';have HO:=Hd hl;have HA:=Hd hA;have HA':=Hd hA';have HX:=Hd hx;have HX':=Hd hx';have hU:=Hd hL;have HQ:=Hd hD;have KC:=Hd (E8 (l.length:Int) (l'.length:Int));rw[show Dp (l.length:Int) (l'.length:Int)=0 from by rw[hD];exact Il _]at KC;generalize hM:C0 E l l' 0=res;have hP:=Hd hM;clear hE hR hR' hl hA hA' hx hx' hM;obtain⟨m,hm⟩:∃m,m=l.length:=⟨_,rfl⟩;obtain⟨m',hm'⟩:∃m',m'=l'.length:=⟨_,rfl⟩;rw[<-hm,<-hm']at hD KC;rw[<-hm,<-hm'];rw[<-hm]at hL hU;have HM:=Hd (And.intro hm hm');subst hD;clear _hlen' hm hm';go_enter Tryz.func148,Tryz.ntmps148;go_wp2_with fail;refine (KC.o _).mono ?_;rintro e w1 ⟨rfl,rfl⟩;go_wp2_with fail
 go_loopw [20] (fun v wr=>∃n:Nat,n<=m/\v=.int .i64 n/\Gw w wr/\C0 E l l' n=res) (fun v _=>m - (intOf v).toNat)
 case atStart=>exact⟨0,by omega,rfl,Gw.refl _,hP.o⟩
 case round=>
  obtain⟨n,hn,rfl,hb,hF⟩:=hrel;have HB:=Hd hb;have hI:=Hd hF;clear hb hF;by_cases hG:n<m
  case neg=>
   obtain rfl:n=m:=by omega
   have tl:decide ((n:Int)<(n:Int))=false:=by simp
   have h0:res=0:=by rw[<-hI.o,HM.o.1];exact Hc E HQ.o
   have H0:=Hd h0;clear hG h0;go_wp2_with fail;go_ret
   exact⟨by rw[H0.o];rfl,HB.o⟩
  have tl:decide ((n:Int)<(m:Int))=true:=by simp;omega
  have hN:n<l.length:=by rw[<-HM.o.1];exact hG
  have hQ:n<l'.length:=by rw[<-HM.o.2];exact hG
  have hA:=HA.o (by omega);have hA':=HA'.o (by omega);subst hA hA';have HL:=Hd hG;have hB:=Gh E HE.o HQ.o hN hQ;rw[hI.o]at hB;have K7:=Hd ((HO.o l[n] (List.getElem_mem hN) l'[n]).ok wr.drew b (o+n*2) b' (o'+n*2) (HR.o _ _ _ _ _ HB.o.drew.below (HX.o n hN)) (HR'.o _ _ _ _ _ HB.o.drew.below (HX'.o n hQ)));generalize Ca (E l[n]) (E l'[n])=c7 at hB K7;have hH:Z9 (c7=0->C0 E l l' (n+1)=res):=Hd fun h=>by rw[hB,h,Bn]
  have hJ:Z9 (c7≠0->res=c7):=Hd fun h=>by rw[hB,Dr h]
  have hV:n<m:=hG;clear hB hG hN hQ;go_wp2_with fail;go_wp2_with fail;refine wp_region_held_drew (S:=(fun _=>True)) (by kernel_rfl) trivial (fun hC=>?_);refine Ab.s [0,1,2,3,4,5,6] ?_
  iterate 7 (refine Ab.k (so rfl) hC ?_;try simp only[Act.put,Bd,Be,Bf])
  refine Ab.d ?_;refine wpAnyH_ready (rs:=[7]) (by kernel_rfl) (by simp) ?_;refine AllReadyH.cons (sd (some 30) rfl) (fun K hK=>?_) AllReadyH.nil;go_simp;refine K7.o.mono ?_;rintro e w7 ⟨rfl,hT⟩;have hS:=Hd hT;clear hT;go_wp2_with fail;refine hK.out _ _ (trivial) (fun hC=>?_);clear hK K;try simp only[Act.put,Bd,Be,Bf]
  refine Ab.s [8] ?_;refine Ab.k (so rfl) hC ?_;try simp only[Act.put,Bd,Be,Bf]
  refine Ab.d ?_;refine wpAnyH_done (by kernel_rfl) ?_ _;clear hC;by_cases hc:c7=0
  ·have tc:(c7 != 0)=false:=by simpa using hc
   have hO:=Hd (hH.o hc);clear hc;go_wp2_with fail;refine⟨⟨n+1,HL.o,by go_num,HB.o.drew.trans hS.o,hO.o⟩,?meas⟩
   case meas=>exact Ev HL.o
  ·have tc:(c7 != 0)=true:=by simpa using hc
   have hO:=Hd (hJ.o hc);clear hc;go_wp2_with fail;go_ret
   exact⟨by rw[<-hO.o];rfl,HB.o.drew.trans hS.o⟩
def Hw:Go.Shelf.Ren:=⟨fun|6=>100 | 15=>140 | 14=>139 | 28=>177 | 29=>178 | 20=>169 | 21=>170 | 22=>171 | 23=>172 | 24=>173 | 25=>174 | 26=>175 | 27=>176 | 46=>200 | 47=>201 | 48=>202 | 49=>203 | 50=>204 | 57=>215 | n=>n,fun|22=>22 | 24=>26 | 25=>49 | 3=>3 | 39=>171 | 0=>0 | 53=>218 | 55=>220 | 4=>4 | 46=>211 | 45=>210 | 50=>215 | 5=>5 | 9=>9 | 66=>235 | 70=>127 | 76=>246 | 77=>247 | n=>n,fun n=>n⟩
theorem Jaj:Go.Proofs.SlLaysF0.n6 Tryz.prog Hw:={
 mixed:=by kernel_rfl
 f6:=⟨ "slices.SortFunc[[]plinth/api.Type,plinth/api.Type]",by decide,Tryz.func100.trans (congrArg some (by kernel_rfl))⟩
 f14:=⟨ "slices.pdqsortCmpFunc[plinth/api.Type]",by decide,Tryz.func139.trans (congrArg some (by kernel_rfl))⟩
 f15:=Tryz.func140.trans (congrArg some (by kernel_rfl))
 f20:=⟨ "slices.insertionSortCmpFunc[plinth/api.Type]",by decide,Tryz.func169.trans (congrArg some (by kernel_rfl))⟩
 f21:=⟨ "slices.heapSortCmpFunc[plinth/api.Type]",by decide,Tryz.func170.trans (congrArg some (by kernel_rfl))⟩
 f22:=⟨ "slices.breakPatternsCmpFunc[plinth/api.Type]",by decide,Tryz.func171.trans (congrArg some (by kernel_rfl))⟩
 f23:=⟨ "slices.choosePivotCmpFunc[plinth/api.Type]",by decide,Tryz.func172.trans (congrArg some (by kernel_rfl))⟩
 f24:=⟨ "slices.reverseRangeCmpFunc[plinth/api.Type]",by decide,Tryz.func173.trans (congrArg some (by kernel_rfl))⟩
 f25:=⟨ "slices.partialInsertionSortCmpFunc[plinth/api.Type]",by decide,Tryz.func174.trans (congrArg some (by kernel_rfl))⟩
 f26:=⟨ "slices.partitionEqualCmpFunc[plinth/api.Type]",by decide,Tryz.func175.trans (congrArg some (by kernel_rfl))⟩
 f27:=⟨ "slices.partitionCmpFunc[plinth/api.Type]",by decide,Tryz.func176.trans (congrArg some (by kernel_rfl))⟩
 f28:=Tryz.func177.trans (congrArg some (by kernel_rfl))
 f29:=Tryz.func178.trans (congrArg some (by kernel_rfl))
 f46:=⟨ "slices.siftDownCmpFunc[plinth/api.Type]",by decide,Tryz.func200.trans (congrArg some (by kernel_rfl))⟩
 f47:=Tryz.func201.trans (congrArg some (by kernel_rfl))
 f48:=Tryz.func202.trans (congrArg some (by kernel_rfl))
 f49:=⟨ "slices.medianAdjacentCmpFunc[plinth/api.Type]",by decide,Tryz.func203.trans (congrArg some (by kernel_rfl))⟩
 f50:=⟨ "slices.medianCmpFunc[plinth/api.Type]",by decide,Tryz.func204.trans (congrArg some (by kernel_rfl))⟩
 f57:=⟨ "slices.order2CmpFunc[plinth/api.Type]",by decide,Tryz.func215.trans (congrArg some (by kernel_rfl))⟩
 t0:=Tryz.underlying0
 a0:=Tryz.isAgg0
 z0:=Tryz.sizeOf0
 v0:=Tryz.zeroValue0
 t3:=Tryz.underlying3
 a3:=Tryz.isAgg3
 z3:=Tryz.sizeOf3
 v3:=Tryz.zeroValue3
 t4:=Tryz.underlying4
 a4:=Tryz.isAgg4
 z4:=Tryz.sizeOf4
 v4:=Tryz.zeroValue4
 t5:=Tryz.underlying5
 a5:=Tryz.isAgg5
 z5:=Tryz.sizeOf5
 v5:=Tryz.zeroValue5
 t9:=Tryz.underlying9
 a9:=Tryz.isAgg9
 z9:=Tryz.sizeOf9
 v9:=Tryz.zeroValue9
 t22:=Tryz.underlying22
 a22:=Tryz.isAgg22
 z22:=Tryz.sizeOf22
 v22:=Tryz.zeroValue22
 t25:=Tryz.underlying49
 a25:=Tryz.isAgg49
 z25:=Tryz.sizeOf49
 v25:=Tryz.zeroValue49
 t39:=Tryz.underlying171
 a39:=Tryz.isAgg171
 z39:=Tryz.sizeOf171
 v39:=Tryz.zeroValue171
 t45:=Tryz.underlying210
 a45:=Tryz.isAgg210
 z45:=Tryz.sizeOf210
 v45:=Tryz.zeroValue210
 t46:=Tryz.underlying211
 a46:=Tryz.isAgg211
 z46:=Tryz.sizeOf211
 v46:=Tryz.zeroValue211
 t50:=Tryz.underlying215
 a50:=Tryz.isAgg215
 z50:=Tryz.sizeOf215
 v50:=Tryz.zeroValue215
 t53:=Tryz.underlying218
 a53:=Tryz.isAgg218
 z53:=Tryz.sizeOf218
 v53:=Tryz.zeroValue218
 t55:=Tryz.underlying220
 a55:=Tryz.isAgg220
 z55:=Tryz.sizeOf220
 v55:=Tryz.zeroValue220
 t66:=Tryz.underlying235
 a66:=Tryz.isAgg235
 z66:=Tryz.sizeOf235
 v66:=Tryz.zeroValue235
 t70:=Tryz.underlying127
 a70:=Tryz.isAgg127
 z70:=Tryz.sizeOf127
 v70:=Tryz.zeroValue127
 t76:=Tryz.underlying246
 a76:=Tryz.isAgg246
 z76:=Tryz.sizeOf246
 v76:=Tryz.zeroValue246
 t77:=Tryz.underlying247
 a77:=Tryz.isAgg247
 z77:=Tryz.sizeOf247
 v77:=Tryz.zeroValue247
}
