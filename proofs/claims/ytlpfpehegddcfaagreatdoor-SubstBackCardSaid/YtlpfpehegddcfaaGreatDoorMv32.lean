import Derived.Test.YtlpfpehegddcfaaGreatDoorMv30
import Derived.Test.YtlpfpehegddcfaaGreatDoorMv31
namespace Go.Proofs.YtlpfpehegddcfaaGreatDoor
set_option maxRecDepth 100000
set_option maxHeartbeats 64000000
open Go.RowKit
theorem Gr {x:ByteArray} (h:Bo x=true):Ab (Bg x)=true:=by
 unfold Bg;rw[Am,show Ae 16=⟨true,false,false,false,0,0,true⟩ from rfl];unfold Aj Bh;simp[h]
theorem Jar {t:Ty} (h15:t.k≠15) (h1:t.k≠1):Ip t=[t]:=by unfold Ip;rw[if_neg h15,if_neg h1]
theorem Jd0 (y:ByteArray) (v:Ty) {k:Int} (h16:k≠16) (h15:k≠15):Ak y v (E7 k)=E7 k:=by
 unfold E7;rw[Cr,if_neg (by simp[h16]),if_neg (by simpa using h15)];rfl
theorem Xc {y:ByteArray} {v:Ty} (hv:Ab v=true) {U:Ty} (hU:Ab U=true):Ak y v U=Bi ((Ip U).map (Ak y v)):=by
 by_cases h15:U.k=15
 ·obtain⟨k,s,n,ps,fs,vs⟩:=U;obtain rfl:k=15:=h15;rw[Cr,if_neg (by simp),if_pos (show ((15:Int) == 15)=true from rfl)];rfl
 ·by_cases h1:U.k=1
  ·have e:=Gq hU h1 (by decide) (by decide);subst e;rw[Jd0 y v (by decide) (by decide)];rfl
  ·rw[Jar h15 h1];exact (Tq (Me hv U hU)).symm
theorem Jct {vs:Bm} {f:ByteArray×List Ty->List Ty} {y:ByteArray}:Dq (vs.map fun v=>(v.1,f v)) y=Dq vs y:=by
 unfold Dq;rw[List.any_map];rfl
theorem Jeo {k:Int} {t:ByteArray} {n:Int} {ps:List Ty} {fs:Bp} {vs:Bm} {y:ByteArray} (h:y ∉ Ee (.mk k t n ps fs vs)):Dq vs y=false:=by
 rw[Bool.eq_false_iff];intro e;obtain⟨v,hv,e⟩:=List.any_eq_true.1 e;rw[decide_eq_true_eq] at e;exact h (e ▸ Sb hv)
theorem Mt {x y:ByteArray} {cut:Nat->Bool} {ps:List Ty} (hp:∀ p∈ps,Ab p=true) {w:ByteArray} (h:w∈Df (Cv x (Bg y) cut 0 ps)):w∈Df ps:=by
 unfold Df at h ⊢;rw[Im] at h
 cases e:ps[1]? with
 | none=>rw[e] at h;cases h
 | some p=>
  rw[e] at h;have hm:=hp p (List.mem_of_getElem? e);simp only[Option.map_some] at h;by_cases hc:cut (0+1)=true
  ·rw[if_pos hc] at h;exact h
  ·rw[if_neg hc] at h;exact Wp p hm w h
theorem Jen {l:List ByteArray} {y:ByteArray} (h:y ∉ l):Cl l y=false:=Bool.eq_false_iff.2 fun e=>h (Cy.1 e)
theorem U2 {x y:ByteArray} {u v:Ty} {cut:Nat->Bool}:∀ {l:List Ty} {j:Nat},(∀ p∈l,Ak y v (Ak x u p)=p/\Ak y v p=p)->(Cv x u cut j l).map (Ak y v)=l
 | [],_,_=>rfl
 | a :: l,j,h=>by
  rw[Cv,List.map_cons,U2 fun p hp=>h p (List.mem_cons_of_mem _ hp)];obtain⟨h1,h2⟩:=h a List.mem_cons_self;by_cases hc:cut j=true
  ·rw[if_pos hc,h2]
  ·rw[if_neg hc,h1]
theorem Jbh {x y:ByteArray} (hx:Bo x=true) (hy:Bo y=true) (t:Ty):Ab t=true->y ∉ Ge t->y ∉ Ee t->Ak y (Bg x) (Ak x (Bg y) t)=t:=by
 refine Ty.ind (C:=fun t=>Ab t=true->y ∉ Ge t->y ∉ Ee t->Ak y (Bg x) (Ak x (Bg y) t)=t) (fun k t n ps fs vs hp hf hv hfm hkv hbn=>?_) t;have hfp:=Ci hfm;have ihp:∀ p∈ps,Ak y (Bg x) (Ak x (Bg y) p)=p:=fun p hp2=>hp p hp2 (hfp p hp2) (fun e=>hkv (Ez hp2 e)) fun e=>hbn (G5 hp2 e);have idp:∀ p∈ps,Ak y (Bg x) p=p:=fun p hp2=>Do y _ p (hfp p hp2) (Fh fun e=>hkv (Ez hp2 e));rw[Cr x];by_cases h1:(k == 16 && decide (t=x))=true
 ·rw[if_pos h1,U3,if_pos rfl];rw[Bool.and_eq_true,beq_iff_eq,decide_eq_true_eq] at h1;obtain⟨rfl,rfl⟩:=h1;obtain⟨rfl,rfl,rfl,rfl⟩:=Mh hfm;rfl
 ·rw[if_neg h1];by_cases h2:(k == 15)=true
  ·rw[if_pos h2];rw[beq_iff_eq] at h2;subst h2;have hU:Ab (Bi (ps.map (Ak x (Bg y))))=true:=Mg fun z hz=>by
    obtain⟨p,hp2,rfl⟩:=List.mem_map.1 hz;exact Me (Gr hy) p (hfp p hp2)
   rw[Xc (Gr hx) hU];refine (Tp (l':=ps) fun z=>?_).trans (Dd hfm rfl)
   constructor
   ·intro hz;obtain⟨q,hq,rfl⟩:=List.mem_map.1 hz;obtain⟨p,hp2,rfl⟩:=(Rh hfm q).1 (El.1 hq);rw[ihp p hp2];exact hp2
   ·intro hz;exact List.mem_map.2 ⟨Ak x (Bg y) z,El.2 ((Rh hfm _).2 ⟨z,hz,rfl⟩),ihp z hz⟩
  ·rw[if_neg h2];have hk16:¬ (k == 16 && decide (t=y))=true:=fun e=>by
    rw[Bool.and_eq_true,beq_iff_eq,decide_eq_true_eq] at e;obtain⟨rfl,rfl⟩:=e;refine hkv ?_;rw[Eo,if_pos rfl];exact List.mem_append_left _ List.mem_cons_self
   rw[Cr y,if_neg hk16,if_neg h2,Jct,Jeo hbn];have hty:t≠y:=fun e=>hbn (e ▸ G6);have hcut:∀ (ps1:List Ty) (i:Nat),y ∉ Df ps1->C5 k t n ps1 i y=false:=fun ps1 i h=>by
    unfold C5;rw[Jen h,decide_eq_false hty];simp
   rw[Ik fun i=>by rw[hcut _ i fun e=>hbn (L5 (Mt (ps:=ps) hfp e))];rfl];rw[U2 fun p hp2=>⟨ihp p hp2,idp p hp2⟩];have e2:((fs.map fun f=>(f.1,f.2.1,Ak x (Bg y) f.2.2)).map fun f=>(f.1,f.2.1,Ak y (Bg x) f.2.2))=fs:=by
    rw[List.map_map];exact (List.map_congr_left (g:=id) fun f hf2=>by
     show (f.1,f.2.1,Ak y (Bg x) (Ak x (Bg y) f.2.2))=_;rw[hf f hf2 (Ek (t:=.mk k t n ps fs vs) hfm f hf2) (fun e=>hkv (Mn hf2 e)) fun e=>hbn (I6 hf2 e)];rfl).trans (List.map_id _)
   have e3:((vs.map fun v=>(v.1,v.2.map fun b=>if Dq vs x=true then b else Ak x (Bg y) b)).map fun v=>(v.1,v.2.map fun b=>if false=true then b else Ak y (Bg x) b))=vs:=by
    rw[List.map_map];refine (List.map_congr_left (g:=id) fun v hv2=>?_).trans (List.map_id _);show (v.1,(v.2.map fun b=>if Dq vs x=true then b else Ak x (Bg y) b).map fun b=>if false=true then b else Ak y (Bg x) b)=v;rw[List.map_map];have e4:(v.2.map ((fun b=>if false=true then b else Ak y (Bg x) b) ∘ fun b=>if Dq vs x=true then b else Ak x (Bg y) b))=v.2:=by
     refine (List.map_congr_left (g:=id) fun b hb=>?_).trans (List.map_id _);show (if false=true then (if Dq vs x=true then b else Ak x (Bg y) b) else Ak y (Bg x) (if Dq vs x=true then b else Ak x (Bg y) b))=b;rw[if_neg (by decide)];have hb2:=Gg hfm v hv2 b hb;by_cases hi:Dq vs x=true
     ·rw[if_pos hi];exact Do y (Bg x) b hb2 (Fh (t:=b) fun e=>hkv (Ey hv2 hb e))
     ·rw[if_neg hi];exact hv v hv2 b hb hb2 (fun e=>hkv (Ey hv2 hb e)) fun e=>hbn (I5 hv2 hb e)
    rw[e4]
   rw[e2,e3]
theorem X0 {x y:ByteArray} (_hx:Bo x=true) (t:Ty):Ab t=true->y ∉ Ge t->y ∉ Ee t->Dm y (Bg x) (Ak x (Bg y) t)=true:=by
 refine Ty.ind (C:=fun t=>Ab t=true->y ∉ Ge t->y ∉ Ee t->Dm y (Bg x) (Ak x (Bg y) t)=true) (fun k t n ps fs vs hp hf hv hfm hkv hbn=>?_) t;have hfp:=Ci hfm;have ihp:∀ p∈ps,Dm y (Bg x) (Ak x (Bg y) p)=true:=fun p hp2=>hp p hp2 (hfp p hp2) (fun e=>hkv (Ez hp2 e)) fun e=>hbn (G5 hp2 e);have frp:∀ p∈ps,Bl y p=false:=fun p hp2=>Fh fun e=>hkv (Ez hp2 e);have frb:∀ v∈vs,∀ b∈v.2,Bl y b=false:=fun v hv2 b hb=>Fh fun e=>hkv (Ey hv2 hb e);rw[Cr x];by_cases h1:(k == 16 && decide (t=x))=true
 ·rw[if_pos h1];unfold Bg;exact I8 (I9 (fun _ _ v hv2=>absurd hv2 (by simp)) (fun h=>absurd h (by decide)) (fun h=>absurd h (by decide)) fun h=>absurd h (by decide)) (fun v hv2=>absurd hv2 (by simp)) (fun p hp2=>absurd hp2 (by simp)) fun f hf2=>absurd hf2 (by simp)
 ·rw[if_neg h1];by_cases h2:(k == 15)=true
  ·rw[if_pos h2];rw[beq_iff_eq] at h2;subst h2;refine Kk (C:=fun t=>Dm y (Bg x) t=true) (fun q hq=>?_) ?_ (fun q hq=>?_) fun L hL=>?_
   ·obtain⟨p,hp2,rfl⟩:=List.mem_map.1 hq;rw[Dx (Gc hfm p hp2).1];exact (Gc hfm p hp2).1
   ·exact L7 _ (by unfold E7;rw[Eo];simp)
   ·obtain⟨p,hp2,rfl⟩:=List.mem_map.1 hq;exact ihp p hp2
   ·exact I8 (I9 (fun _ _ v hv2=>absurd hv2 (by simp)) (fun h=>absurd h (by decide)) (fun h=>absurd h (by decide)) fun h=>absurd h (by decide)) (fun v hv2=>absurd hv2 (by simp)) hL fun f hf2=>absurd hf2 (by simp)
  ·rw[if_neg h2];have hget:∀ (cut:Nat->Bool) i,cut i=true->Lf y (Cv x (Bg y) cut 0 ps) i=false:=fun cut i hc=>by
    unfold Lf;rw[Im]
    cases e:ps[i]? with
    | none=>rfl
    | some p=>
     simp only[Option.map_some,Nat.zero_add,hc];exact frp p (List.mem_of_getElem? e)
   have hdrop:∀ (cut:Nat->Bool),(∀ i,1<=i->cut i=true)->Bl y (D6 (Cv x (Bg y) cut 0 ps))=false:=fun cut hc=>by
    have e:(Cv x (Bg y) cut 0 ps).drop 1=ps.drop 1:=by
     refine List.ext_getElem? fun i=>?_;rw[List.getElem?_drop,List.getElem?_drop,Im]
     cases e:ps[1+i]? with
     | none=>rfl
     | some p=>simp only[Option.map_some,Nat.zero_add,hc (1+i) (by omega),if_pos]
    have hb:D6 (Cv x (Bg y) cut 0 ps)=D6 ps:=(by unfold D6;rw[e]);rw[hb];refine Fh fun e=>?_;unfold D6 at e;rw[Eo,if_neg (by decide)] at e;simp only[List.map_nil,List.flatten_nil,List.nil_append,List.append_nil] at e;obtain⟨l,hl,he⟩:=List.mem_flatten.1 e;obtain⟨p,hp2,rfl⟩:=List.mem_map.1 hl;rcases List.mem_cons.1 hp2 with rfl | h1
    ·unfold E7 at he;rw[Eo,if_neg (by decide)] at he;simp at he
    ·exact hkv (Ez (List.mem_of_mem_drop h1) he)
   refine I8 (I9 (fun _ e2 v hv2=>?_) (fun h20 _ e2=>?_) (fun h21 hn _ e2=>?_) fun h21 _ e2 z hz=>?_) (fun v hv2 b hb=>?_) (fun z hz=>?_) fun f hf2=>?_
   ·obtain⟨v,hv3,rfl⟩:=List.mem_map.1 hv2;show Bl v.1 (Bg x)=false;rw[Mk];by_cases hi:Dq vs x=true
    ·exfalso
     rw[Il (fun i=>by rw[hi];rfl)] at e2;have e3:(vs.map fun v=>(v.1,v.2.map fun b=>if Dq vs x=true then b else Ak x (Bg y) b))=vs:=by
      refine (List.map_congr_left (g:=id) fun v _=>?_).trans (List.map_id _);simp[hi]
     rw[e3] at e2;have h4:Bl y (D3 ps vs)=false:=Fh fun e=>by
      unfold D3 at e;rw[Eo,if_neg (by decide)] at e;simp only[List.map_nil,List.flatten_nil,List.nil_append,List.append_nil] at e;obtain⟨l,hl,he⟩:=List.mem_flatten.1 e;obtain⟨p,hp2,rfl⟩:=List.mem_map.1 hl;rcases List.mem_append.1 hp2 with h1 | h1
      ·exact hkv (Ez h1 he)
      ·obtain⟨m,hm,h1⟩:=List.mem_flatten.1 h1;obtain⟨v,hv2,rfl⟩:=List.mem_map.1 hm;exact hkv (Ey hv2 h1 he)
     rw[h4] at e2
     cases e2
    ·refine decide_eq_false fun e=>hi (List.any_eq_true.2 ⟨v,hv3,decide_eq_true e.symm⟩)
   ·rw[Mk];refine decide_eq_false fun e=>?_;have h3:=hget (fun i=>Dq vs x || C5 k t n ps i x) 1 (by subst h20;subst e;simp[C5]);rw[h3] at e2
    cases e2
   ·rw[Mk];refine decide_eq_false fun e=>?_;have h3:=hdrop (fun i=>Dq vs x || C5 k t n ps i x) fun i hi=>by subst h21;subst hn;subst e;simp[C5];omega
    rw[h3] at e2
    cases e2
   ·rw[Mk];refine decide_eq_false fun e=>?_;subst e;subst h21;have hl4:ps.length=4:=by
     have h4:=Db hfm;rw[show Ae 21=⟨true,true,false,false,4,4,true⟩ from rfl] at h4;unfold Aj at h4;simp only[Bool.and_eq_true,Bool.or_eq_true,decide_eq_true_eq,beq_iff_eq] at h4;omega
    have h4:Cl (Df ps) x=true:=Cy.2 (Mt hfp hz);have h3:=hget (fun i=>Dq vs x || C5 21 t n ps i x) 2 (by simp[C5,hl4,h4]);rw[h3] at e2
    cases e2
   ·obtain⟨v,hv3,rfl⟩:=List.mem_map.1 hv2;obtain⟨b,hb2,rfl⟩:=List.mem_map.1 hb;show Dm y (Bg x) (if Dq vs x=true then b else Ak x (Bg y) b)=true;by_cases hi:Dq vs x=true
    ·rw[if_pos hi];exact L7 _ fun e=>hkv (Ey hv3 hb2 e)
    ·rw[if_neg hi];exact hv v hv3 b hb2 (Gg hfm v hv3 b hb2) (fun e=>hkv (Ey hv3 hb2 e)) fun e=>hbn (I5 hv3 hb2 e)
   ·obtain⟨p,hp2,rfl | rfl⟩:=Gv hz
    ·exact L7 _ fun e=>hkv (Ez hp2 e)
    ·exact ihp p hp2
   ·obtain⟨f,hf3,rfl⟩:=List.mem_map.1 hf2;exact hf f hf3 (Ek (t:=.mk k t n ps fs vs) hfm f hf3) (fun e=>hkv (Mn hf3 e)) fun e=>hbn (I6 hf3 e)
theorem Iy {k:Int} {x:ByteArray}:∀ {l:List Ty} {j:Nat},x∈Bu k j l->∃ p∈l,x∈Aw p
 | p :: l,j,h=>by
  rw[Bu,List.mem_append] at h;rcases h with h | h
  ·by_cases e:(k == 21 && j == 1)=true
   ·rw[if_pos e] at h;cases h
   ·rw[if_neg e] at h;exact⟨p,List.mem_cons_self,h⟩
  ·obtain⟨q,hq,hx⟩:=Iy h;exact⟨q,List.mem_cons_of_mem _ hq,hx⟩
theorem S7 {K:Nat->Prop} {w:World} (t:Ty):∀ cs,RepT K w t cs->∀ x∈Aw t,x.size<=1000000000000000:=by
 refine Ty.ind (C:=fun t=>∀ cs,RepT K w t cs->∀ x∈Aw t,x.size<=1000000000000000) (fun k s n ps fs vs hp hf _ cs hr x hx=>?_) t;obtain⟨A,c,B,d,C,e,-,ht,hL,hF,-⟩:=hr.inv;rw[Dh] at hx;by_cases hk:k=22
 ·rw[if_pos hk] at hx;obtain rfl:x=s:=by simpa using hx
  exact ht
 ·rw[if_neg hk,List.mem_append] at hx;rcases hx with hx | hx
  ·obtain⟨p,hp2,hx⟩:=Iy hx;obtain⟨i,hi,rfl⟩:=List.getElem_of_mem hp2;obtain⟨b,o,-,-,hat⟩:=hL.at (Nat.lt_of_le_of_lt (Nat.zero_le i) hi);obtain⟨cs2,-,hr2⟩:=hat i hi;exact hp _ hp2 cs2 hr2 x hx
  ·unfold Cs at hx;obtain⟨l,hl,hx⟩:=List.mem_flatten.1 hx;obtain⟨f,hf2,rfl⟩:=List.mem_map.1 hl;obtain⟨i,hi,rfl⟩:=List.getElem_of_mem hf2;obtain⟨b,o,-,-,hat⟩:=hF.at (Nat.lt_of_le_of_lt (Nat.zero_le i) hi);obtain⟨-,-,-,cs2,-,hr2⟩:=hat i hi;exact hf _ hf2 cs2 hr2 x hx
theorem Xj (hI:Lu) {s:ByteArray} {n:Int} {ps:List Ty} {fs:Bp} {vs:Bm} (hp:∀ p∈ps,Lz p):Lz (.mk 21 s n ps fs vs):=by
 intro K U g mb mf w bp op c S ha hbp hK hS hU hUl hc hfm hvs;obtain⟨A,d,A2,d2,A3,d3,HX,HP,HF,HV,HT⟩:=Px ha hbp hK;obtain⟨l1,l2,-,-⟩:=D8 hfm;have hpl:ps.length=4:=Ue hfm 4 rfl rfl;have e2:fs=[]:=List.eq_nil_of_length_eq_zero (l1 (by decide));have e3:vs=[]:=List.eq_nil_of_length_eq_zero (l2 (by decide));obtain⟨p0,p1,p2,p3,rfl⟩:=Jcq hpl;subst e2;subst e3;obtain⟨-,-,v3,-⟩:=E6 hvs;have hat0:=fun wx (hx:ButG (fun x=>x=mb\/x=mf) w wx)=>(HP.out wx hx).at (by simp);obtain⟨tb,tq,hA,hKb,-⟩:=hat0 w (ButG.refl _ _);subst hA;have hd:4<=d:=(HP.out w (ButG.refl _ _)).caps;have hrow:∀ wx,ButG (fun x=>x=mb\/x=mf) w wx->AtT K wx p0 tb tq/\AtT K wx p1 tb (tq+6)/\AtT K wx p2 tb (tq+12)/\AtT K wx p3 tb (tq+18):=fun wx hx=>by
  obtain⟨tb',tq',hA',-,hat⟩:=hat0 wx hx;injection hA' with hA'
  injection hA' with e1 e2
  subst e1;subst e2;exact⟨by simpa using hat 0 (by simp),by simpa using hat 1 (by simp),by simpa using hat 2 (by simp),by simpa using hat 3 (by simp)⟩
 have hcnt:Ai (Ty.mk 21 s n [p0,p1,p2,p3] [] [])=1+(Ai p0+(Ai p1+(Ai p2+Ai p3))):=by
  rw[Br,B6,B6,B6,B6,Gp];have e1:Bd []=0:=rfl;have e2:Be []=0:=rfl;rw[e1,e2];simp only[Nat.add_zero]
 have hnu:∀ x∈Aw p1,x∈U/\x.size<=maxLen:=fun x hx=>by
  obtain⟨cs1,-,hr1⟩:=(hrow w (ButG.refl _ _)).2.1;exact⟨hU x (L5 (by exact hx)),Nat.le_trans (S7 p1 cs1 hr1 x hx) (by decide)⟩
 have hpt:∀ p∈[p0,p1,p2,p3],(∀ x∈Ee p,x∈U)/\(Ab p=true/\Da p=true)/\Lz p:=fun p hp2=>⟨fun x hx=>hU x (G5 hp2 hx),⟨Ci hfm p hp2,v3 p hp2⟩,hp p hp2⟩;have hnl:Ai p1<=1000000:=by
  have h:=hc s;rw[hcnt] at h;have h3:(1+(Ai p0+(Ai p1+(Ai p2+Ai p3))))<=1000000:=by
   refine Classical.byContradiction fun h4=>?_;have h5:1000001*1000000000000002<=_:=Nat.mul_le_mul_right 1000000000000002 (Nat.succ_le_of_lt (Nat.lt_of_not_le h4));omega
  omega
 have hc2:∀ x,c x+(1+(Ai p0+(Ai p1+(Ai p2+Ai p3))))*1000000000000002<=9000000000000000000:=fun x=>by rw[<-hcnt];exact hc x
 have i0:=hpt p0 (by simp);have i1:=hpt p1 (by simp);have i2:=hpt p2 (by simp);have i3:=hpt p3 (by simp);have hsz:=Nat.le_trans HT.out (by decide:1000000000000000<=maxLen);obtain⟨x0,-,-,-,-,-⟩:=HX.out _ (ButG.refl _ _);obtain⟨k4,s4,n4,ps4,fs4,vs4⟩:=p1;by_cases hn1:n=1
 ·subst hn1;have KC:=Hd (Jek hI (c:=c) (fun wx hx=>⟨(HX.out wx hx).2.1,(HX.out wx hx).2.2.1,(HX.out wx hx).2.2.2.1⟩) hrow hKb hd hbp hK hS ⟨hU s G6,hsz⟩ hUl hnu hnl hc2 i0 i1 i2 i3);clear ha hbp hK hS hU hUl hc hfm hvs l1 l2 hpl v3 hat0 hKb hd hrow hp hcnt hnu hpt hnl hc2 i0 i1 i2 i3 hsz;go_enter Tryz.func153,Tryz.ntmps153;go_wp2_with fail;refine KC.out.mono ?_;rintro e w3 ⟨rfl,hs3,hb3⟩;have HS3:Hid (SeS U w3 g mb mf c (fun x=>S x || (decide (c x=0) && Bl x (.mk 21 s 1 [p0,.mk k4 s4 n4 ps4 fs4 vs4,p2,p3] [] [])))):=Hd hs3;have HB3:=Hd hb3;clear hs3 hb3 KC x0;go_wp2_with fail;first
  | (go_end0;exact⟨rfl,HS3.out,HB3.out⟩)
  | exact bodyPost_ret (v:=.tuple #[]) (by simp[results,Tryz.results153,go_sem]) rfl ⟨rfl,HS3.out,HB3.out⟩
 ·have KC:=Hd (Jej hI (c:=c) hn1 (fun wx hx=>⟨(HX.out wx hx).2.1,(HX.out wx hx).2.2.1,(HX.out wx hx).2.2.2.1⟩) hrow hKb hd hbp hK hS ⟨hU s G6,hsz⟩ hUl hnu hnl hc2 i0 i1 i2 i3);clear ha hbp hK hS hU hUl hc hfm hvs l1 l2 hpl v3 hat0 hKb hd hrow hp hcnt hnu hpt hnl hc2 i0 i1 i2 i3 hsz hn1;go_enter Tryz.func153,Tryz.ntmps153;go_wp2_with fail;refine KC.out.mono ?_;rintro e w3 ⟨rfl,hs3,hb3⟩;have HS3:Hid (SeS U w3 g mb mf c (fun x=>S x || (decide (c x=0) && Bl x (.mk 21 s n [p0,.mk k4 s4 n4 ps4 fs4 vs4,p2,p3] [] [])))):=Hd hs3;have HB3:=Hd hb3;clear hs3 hb3 KC x0;go_wp2_with fail;first
  | (go_end0;exact⟨rfl,HS3.out,HB3.out⟩)
  | exact bodyPost_ret (v:=.tuple #[]) (by simp[results,Tryz.results153,go_sem]) rfl ⟨rfl,HS3.out,HB3.out⟩
theorem Jbr (hI:Lu) (t:Ty):Lz t:=by
 refine Ty.ind (C:=Lz) (fun k s n ps fs vs hp hf hv=>?_) t;by_cases h16:k=16
 ·subst h16;exact Jbs
 by_cases h20:k=20
 ·subst h20;exact R6 hp
 by_cases h21:k=21
 ·subst h21;exact Xj hI hp
 exact Xk h16 h20 h21 hp hf hv
open Go.RowKit Go.Maps
theorem M9 (L:List (ByteArray×Unit)):strKeys (G1.datL L)=L.map fun f=>f.1.data.toList:=by
 unfold MK.datL strKeys;simp only[List.map_map];rfl
theorem Sn {α:Type} (L:List (ByteArray×α)) (x:ByteArray):(E8 L x).isSome=true↔x∈L.map (·.1):=by
 induction L with
 | nil=>simp[E8]
 | cons f L ih=>
  rw[Dc,List.map_cons,List.mem_cons];by_cases h:f.1=x
  ·rw[if_pos h];simp[h]
  ·rw[if_neg h,ih];exact⟨.inr,fun h2=>h2.elim (fun e=>absurd e.symm h) id⟩
theorem M0 {W:World} {b n:Nat} {L:List (ByteArray×Unit)} (h:W.ownsMap Tryz.prog (G1:MK Tryz.prog Unit).S G1.R b n (G1.datL L)):(L.map (·.1)).Nodup:=by
 obtain⟨es,hD,hpw,-⟩:=h.entries (Go.Maps.string_keyed G1.hS);unfold MK.datL at hD;injection hD with hD
 rw[<-hD,List.pairwise_map] at hpw;rw[List.nodup_iff_pairwise_ne,List.pairwise_map];exact hpw.imp fun hne e=>hne (by rw[e])
theorem Xu {ss:List (List UInt8)}:∀ x:ByteArray,x∈(ss.mergeSort (fun x y=>decide (x<=y))).map (fun y=>(⟨y.toArray⟩:ByteArray))↔x.data.toList∈ss:=fun x=>by
 rw[List.mem_map]
 constructor
 ·rintro⟨y,hy,rfl⟩;simpa using hy
 ·intro h;exact⟨x.data.toList,by simpa using h,by simp⟩
theorem Ra {K:Nat->Prop} {w:World} {t:Ty} {cs:List Value} (hr:RepT K w t cs) (hK:∀ x,K x->x<w.heap.size) (hf:Ab t=true) (hv:Da t=true) (hc:Ai t<=5000) :
  Calls Tryz.prog 113 #[.agg cs.toArray] w fun e w'=>∃ l A c,e=.returned (.slice A l.length c)/\ListS w' l A/\(∀ x,x∈l↔Bl x t=true)/\l.length<=Ai t/\l.Nodup/\(A=none->c=0)/\(∀ b o,A=some ⟨b,o,none⟩->w.heap.size<=b/\b<w'.heap.size)/\Below w.heap.size w w':=by
 have HCN:=Hd hc;have hbl:=Jei (N:=5000) t hv hc;have hul:(Ee t).length<maxLen:=Nat.lt_of_le_of_lt (Nat.le_trans hbl (Nat.mul_le_mul_right _ hc)) (by decide);obtain⟨w1,hw1⟩:∃ x,x=w.alloc (.cells cs.toArray 26):=⟨_,rfl⟩;obtain⟨M,hM⟩:∃ x,x=w1.heap.size:=⟨_,rfl⟩;obtain⟨w4,hw4⟩:∃ x,x=((w1.alloc (.map #[] 0)).alloc (.map #[] 0)).alloc (.cells #[.map (some M),.map (some (M+1))] 188):=⟨_,rfl⟩;have hs1:M=w.heap.size+1:=by rw[hM,hw1];simp
 have hb1:Below w.heap.size w w1:=by rw[hw1];exact (Below.refl _ _).alloc (Nat.le_refl _) _
 have hba:Below w1.heap.size w1 (w1.alloc (.map #[] 0)):=(Below.refl _ _).alloc (Nat.le_refl _) _;have hbb:Below (w1.alloc (.map #[] 0)).heap.size (w1.alloc (.map #[] 0)) ((w1.alloc (.map #[] 0)).alloc (.map #[] 0)):=(Below.refl _ _).alloc (Nat.le_refl _) _;have hbc:Below ((w1.alloc (.map #[] 0)).alloc (.map #[] 0)).heap.size ((w1.alloc (.map #[] 0)).alloc (.map #[] 0)) w4:=by rw[hw4];exact (Below.refl _ _).alloc (Nat.le_refl _) _
 have hb14:Below w1.heap.size w1 w4:=hba.trans ((hbb.trans (hbc.mono hbb.size)).mono hba.size);have hb4:Below w.heap.size w w4:=hb1.trans (hb14.mono hb1.size);have hm1:MapIs Jec (w1.alloc (.map #[] 0)) M 0 (fun _=>none):=by rw[hM];exact MapIs.new _ w1
 have hm2:MapIs G1 ((w1.alloc (.map #[] 0)).alloc (.map #[] 0)) (M+1) 0 (fun _=>none):=by
  have h:=MapIs.new (G1:MK Tryz.prog Unit) (w1.alloc (.map #[] 0));have e:(w1.alloc (.map #[] 0)).heap.size=M+1:=by rw[hM];simp
  rw[e] at h;exact h
 have hx4:w4.heap[M+2]?=some (.cells #[.map (some M),.map (some (M+1))] 188 (0,0)):=by
  have h:=heap_alloc_new ((w1.alloc (.map #[] 0)).alloc (.map #[] 0)) (.cells #[.map (some M),.map (some (M+1))] 188);have e:((w1.alloc (.map #[] 0)).alloc (.map #[] 0)).heap.size=M+2:=by rw[hM];simp
  rw[e,<-hw4] at h;exact h
 have hS4:SeS (Ee t) w4 (M+2) M (M+1) (fun _=>0) (fun _=>false):=⟨hx4,⟨_,0,hm1.later (hbb.trans (hbc.mono hbb.size)),Nat.zero_le _,fun _=>rfl⟩,⟨_,0,hm2.later hbc,Nat.zero_le _,fun _=>rfl⟩,by omega,by omega,by omega⟩;have hat:AtT K w4 t w.heap.size 0:=⟨cs,fun j u hj=>by
  rw[Nat.zero_add];have hx:w4.heap[w.heap.size]?=some (.cells cs.toArray 26 (0,0)):=Bc hb14 (by rw[hw1];simp) (by rw[hw1];exact heap_alloc_new w _);rw[Ch hx];simpa using hj,hr.later hb4⟩
 have KW:=Hd (Jbr Pn t K (Ee t) (M+2) M (M+1) w4 w.heap.size 0 (fun _=>0) (fun _=>false) hat ⟨by omega,by omega⟩ (fun x hx=>by have h1:=hK x hx;have h2:=hb4.size;omega) hS4 (fun x hx=>hx) hul (fun x=>by
  have h:=Nat.mul_le_mul_right 1000000000000002 hc;exact Nat.le_trans (by rw[Nat.zero_add];exact h) (by decide)) hf hv)
 have HW1:=Hd hw1;have HM:=Hd hM;have HW4:=Hd hw4;have HB4:=Hd hb4;have HS1:=Hd hs1;have HT:Hid (∀ x,Bl x t=true->x∈Ge t):=Hd fun x=>Oc x t;have HKL:=Hd (Jes t);obtain⟨k,s,n,ps,fs,vs⟩:=t;obtain⟨A,c,B,d,C,e,rfl,-⟩:=hr.inv;simp only[Ar] at HW1 ⊢;have hmm:=@run_makeMap Tryz.prog;clear hr hK hf hv hc hbl hul hw1 hM hw4 hs1 hb1 hba hbb hbc hb14 hb4 hm1 hm2 hx4 hS4 hat;go_enter Tryz.func113,Tryz.ntmps113;go_upto_region 1 with fail
 rw[<-HW1.out];go_upto_region 2 with fail
 clear hmm;rw[<-HM.out,<-HW4.out];go_wp2_with fail;refine KW.out.mono ?_;rintro e w5 ⟨rfl,hs5,hb5⟩;obtain⟨F,nn,⟨L,hown,hLn,hLF⟩,-,hFS⟩:=hs5.fre;obtain⟨-,y1⟩:=hs5.cell;have hmem:∀ x,x∈L.map (·.1)↔Bl x (.mk k s n ps fs vs)=true:=fun x=>by
  rw[<-Sn,hLF,hFS];simp
 have hlen:L.length<=Ai (.mk k s n ps fs vs):=by
  have h:=On (M0 hown) fun x hx=>HT.out x ((hmem x).1 hx);rw[List.length_map] at h;exact Nat.le_trans h HKL.out
 have hsz:Go.Maps.size (G1.datL L)=L.length:=G2 _ L;have KK:=Hd (Go.callsIn_wide.1 (Jc0 (some (M+1)) w5));have KS:=Hd (Go.callsIn_wide.1 (Wm (M+1) L.length (G1.datL L) G1.R w5 hown (by rw[hsz];have:=HCN.out;exact Nat.le_trans hlen (Nat.le_trans this (by decide))) (by rw[hsz];have:=HCN.out;omega)));have HBE:Hid (Below w.heap.size w w5):=Hd (HB4.out.trans (hb5.below HB4.out.size fun x hx=>by have:=HS1.out;omega));have HMEM:=Hd hmem;have HLEN:=Hd hlen;have HND:=Hd (M0 hown);clear hs5 hb5 hown hLn hLF hFS hmem hlen hsz KW;go_wp2_with fail;refine KK.out.mono ?_;rintro e w6 ⟨rfl,hw6⟩;have hb6:Below w5.heap.size w5 w6:=by rw[hw6];exact (Below.refl _ _).alloc (Nat.le_refl _) _
 have HB6:=Hd (HBE.out.trans (hb6.mono HBE.out.size));have HW6:=Hd hw6;rw[<-hw6] at KS;clear hw6 hb6 y1 KK;go_wp2_with fail;refine KS.out.mono ?_;rintro e w7 ⟨v,ss,rfl,hp,hrow,-,hb7⟩;have hl:((ss.mergeSort (fun x y=>decide (x<=y))).map (fun y=>(⟨y.toArray⟩:ByteArray))).length=ss.length:=by simp
 have ho:OutS w6.heap.size w7 v ((ss.mergeSort (fun x y=>decide (x<=y))).map (fun y=>(⟨y.toArray⟩:ByteArray))):=by
  unfold OutS;rw[hl,List.map_map];exact hrow
 have hss:ss.length=L.length:=by
  have h:=hp.length_eq;rw[M9,List.length_map] at h;exact h
 have hfin:∃ l A c,(Ending.returned v:Ending)=.returned (.slice A l.length c)/\ListS w7 l A/\(∀ x,x∈l↔Bl x (.mk k s n ps fs vs)=true)/\l.length<=Ai (.mk k s n ps fs vs)/\l.Nodup/\(A=none->c=0)/\(∀ b o,A=some ⟨b,o,none⟩->w.heap.size<=b/\b<w7.heap.size)/\Below w.heap.size w w7:=by
  have hnd:((ss.mergeSort (fun x y=>decide (x<=y))).map (fun y=>(⟨y.toArray⟩:ByteArray))).Nodup:=by
   have hp2:=(((List.mergeSort_perm ss (fun x y=>decide (x<=y))).trans hp).map (fun y=>(⟨y.toArray⟩:ByteArray)));rw[M9,List.map_map] at hp2;have e:L.map ((fun y:List UInt8=>(⟨y.toArray⟩:ByteArray)) ∘ fun f=>f.1.data.toList)=L.map (·.1):=List.map_congr_left fun f _=>rfl;rw[e] at hp2;exact hp2.nodup_iff.2 HND.out
  obtain⟨A5,c5,e5,hls⟩:=ho.list (by rw[hl,hss];have h1:=HLEN.out;have h2:=HCN.out;omega);refine⟨_,A5,c5,by rw[e5],hls,fun x=>?_,by rw[hl,hss];exact HLEN.out,hnd,fun e=>?_,fun b o e=>?_,HB6.out.trans (hb7.mono HB6.out.size)⟩
  ·rw[Xu x,hp.mem_iff,M9,<-HMEM.out x,List.mem_map,List.mem_map]
   constructor
   ·rintro⟨f,h1,h2⟩;exact⟨f,h1,Rj h2⟩
   ·rintro⟨f,h1,h2⟩;exact⟨f,h1,by rw[h2]⟩
  ·rcases ho.of with ⟨e6,-⟩ | ⟨g6,c6,e6,-⟩
   ·rw[e5] at e6;injection e6
   ·rw[e5,e] at e6;injection e6 with e7;cases e7
  ·rw[e5,e] at ho;have h1:=World.ownsRow.lt ho b rfl;have h2:=HB6.out.size;exact⟨by omega,h1.2⟩
 have HFIN:=Hd hfin;clear hp hrow hb7 hl ho hss hfin KS;go_wp2_with fail;go_ret
 exact HFIN.out
theorem Wi {w:World} {N:List ByteArray} {A:Option Addr} {c:Nat} (hL:ListS w N A) (s:ByteArray) :
  Calls Tryz.prog 156 #[.slice A N.length c,.string s] w fun e w'=>(∃ z:Int,e=.returned (.int .i64 z)/\decide (0<=z)=Cl N s)/\w'=w:=by
 obtain⟨b,o,hA,hll,hat⟩:=hL;have HAT:=Hd hat;have HAA:=Hd hA;have HLL:=Hd hll;clear hat hA hll;go_enter Tryz.func156,Tryz.ntmps156;go_wp2_with fail
 go_loopw [8] (fun v wr=>∃ i:Nat,i<=N.length/\v=.int .i64 i/\wr=w/\(∀ y∈N.take i,y≠s)) (fun v _=>N.length - (intOf v).toNat)
 case atStart=>exact⟨0,Nat.zero_le _,rfl,rfl,fun y h=>absurd h (by simp)⟩
 case round=>
  obtain⟨i,hi,rfl,hwr,hno⟩:=hrel;obtain rfl:=hwr.symm;clear hwr;have hll:=HLL.out;by_cases hin:i<N.length
  ·have t1:decide ((i:Int)<(N.length:Int))=true:=by simp;omega
   have wr2:wrap64 ((i:Int)+1)=((i+1:Nat):Int):=Ao (by omega);have HM:=Hd (Ba hin);have HIn:Hid (i+1<=N.length):=Hd hin;have hA:=HAA.out (by omega);subst hA;have z0:=HAT.out i hin;have hmem:(N[i]'hin)∈N:=List.getElem_mem hin;have hnx:(N[i]'hin)≠s->∀ y∈N.take (i+1),y≠s:=fun hne y hy=>by
    rw[List.take_succ_eq_append_getElem hin,List.mem_append,List.mem_singleton] at hy;rcases hy with hy | rfl
    ·exact hno y hy
    ·exact hne
   generalize N[i]'hin=y at z0 hmem hnx;have i1:(0:Int)<=(i:Int):=by omega
   have i2:(i:Int)<(N.length:Int):=by omega
   by_cases he:s=y
   ·subst he;have te:(s.toList == s.toList)=true:=(by simp);have HR:Hid (∃ z:Int,(Ending.returned (.int .i64 (i:Int)):Ending)=.returned (.int .i64 z)/\decide (0<=z)=Cl N s):=Hd ⟨i,rfl,by rw[Cy.2 hmem];exact decide_eq_true i1⟩;clear hi hno hll hmem hnx;go_wp2_with fail;go_ret
    exact⟨HR.out,rfl⟩
   ·have te:(s.toList == y.toList)=false:=(by rw[eqT];exact decide_eq_false he);have HNX:=Hd (hnx fun e=>he e.symm);clear hi hno hll hmem hnx he;go_wp2_with fail;refine⟨⟨i+1,HIn.out,by first | rfl | rw[wr2],by trivial,HNX.out⟩,?_⟩;first | exact HM.out | (rw[wr2];exact HM.out)
  ·have t1:decide ((i:Int)<(N.length:Int))=false:=by simp;omega
   have HR:Hid (∃ z:Int,(Ending.returned (.int .i64 (-1:Int)):Ending)=.returned (.int .i64 z)/\decide (0<=z)=Cl N s):=Hd ⟨-1,rfl,by
    have h:Cl N s=false:=by
     rw[Bool.eq_false_iff];intro h;rw[Cy] at h;exact hno s (by rw[List.take_of_length_le (by omega)];exact h) rfl
    rw[h];rfl⟩
   clear hi hno hll;go_wp2_with fail;go_ret
   exact⟨HR.out,rfl⟩
theorem Jc {w:World} {N:List ByteArray} {A:Option Addr} {c:Nat} (hL:ListS w N A) (s:ByteArray) :
  Calls Tryz.prog 114 #[.slice A N.length c,.string s] w fun e w'=>e=.returned (.bool (Cl N s))/\w'=w:=by
 have KI:=Hd (Wi (c:=c) hL s);clear hL;go_enter Tryz.func114,Tryz.ntmps114;go_wp2_with fail;refine KI.out.mono ?_;rintro e w2 ⟨⟨z,rfl,hz⟩,hw⟩;obtain rfl:=hw.symm;have HZ:=Hd hz;clear hw hz;go_wp2_with fail;go_ret
 exact⟨by rw[<-HZ.out];rfl,rfl⟩
def FrL (u:Ty) (l:List ByteArray):Prop:=(∀ x,x∈l↔Bl x u=true)/\l.length<=Ai u
def P1 (Z:Nat->Prop) (w:World) (A:Option Addr) (c:Nat):Prop:=(A=none->c=0)/\∀ b o,A=some ⟨b,o,none⟩->b<w.heap.size/\¬ Z b
structure StaS (K Z:Nat->Prop) (w:World) (sb:Nat) (u:Ty) (nd:Nat):Prop where
 ex:∃ (es:List Value) (fv:Value) (kn:Bool),w.heap[sb]?=some (.cells (es++[.int .i64 (nd:Int),fv,.bool kn]).toArray 120 (0,0))/\RepT K w u es/\(kn=true->∃ l A c,fv=.slice A l.length c/\ListS w l A/\FrL u l/\P1 Z w A c)
theorem StaS.but {K Z O:Nat->Prop} {w w':World} {sb:Nat} {u:Ty} {nd:Nat} (h:StaS K Z w sb u nd) (hb:ButG O w w') (hs:¬ O sb) (hO:∀ x,O x->Z x\/w.heap.size<=x) (hK:∀ x,K x->¬ O x):StaS K Z w' sb u nd:=by
 obtain⟨es,fv,kn,h1,h2,h3⟩:=h;refine⟨es,fv,kn,hb.up hs h1,h2.but hb fun x hx=>⟨hK x hx,hx⟩,fun hk=>?_⟩;obtain⟨l,A,c,e1,e2,e3,e4⟩:=h3 hk;refine⟨l,A,c,e1,e2.but hb fun b o e hx=>?_,e3,e4.1,fun b o e=>⟨Nat.lt_of_lt_of_le (e4.2 b o e).1 hb.size,(e4.2 b o e).2⟩⟩;rcases hO b hx with h | h
 ·exact (e4.2 b o e).2 h
 ·have:=(e4.2 b o e).1;omega
theorem StaS.more {K Z Z':Nat->Prop} {w:World} {sb:Nat} {u:Ty} {nd:Nat} (h:StaS K Z w sb u nd) (hZ:∀ x,Z' x->Z x\/w.heap.size<=x):StaS K Z' w sb u nd:=by
 obtain⟨es,fv,kn,h1,h2,h3⟩:=h;refine⟨es,fv,kn,h1,h2,fun hk=>?_⟩;obtain⟨l,A,c,e1,e2,e3,e4⟩:=h3 hk;refine⟨l,A,c,e1,e2,e3,e4.1,fun b o e=>⟨(e4.2 b o e).1,fun hz=>?_⟩⟩;rcases hZ b hz with h | h
 ·exact (e4.2 b o e).2 h
 ·have:=(e4.2 b o e).1;omega
theorem Nr {K Z:Nat->Prop} {w:World} {sb:Nat} {u:Ty} {nd:Nat} (h:StaS K Z w sb u nd) (hK:∀ x,K x->x<w.heap.size/\x≠sb) (hZ:Z sb) (hwk:∀ x,Z x->x<w.heap.size) (hf:Ab u=true) (hv:Da u=true) (hc:Ai u<=5000) :
  Calls Tryz.prog 115 #[.pointer (some ⟨sb,0,none⟩)] w fun e w'=>∃ l A c,e=.returned (.slice A l.length c)/\ListS w' l A/\FrL u l/\P1 Z w' A c/\StaS K Z w' sb u nd/\ButG (fun x=>x=sb) w w':=by
 obtain⟨es,fv,kn,hx,hr,hkn⟩:=h;have hsb:=(Array.getElem?_eq_some_iff.1 hx).1;have HK:=Hd hK;have HSB:=Hd hsb;have HWK:=Hd hwk;have HZ:=Hd hZ;have KF0:=Ra hr (fun x hx=>(hK x hx).1) hf hv hc;obtain⟨k4,s4,n4,ps4,fs4,vs4⟩:=u;obtain⟨A4,c4,B4,d4,C4,e4,rfl,-⟩:=hr.inv;simp only[Ar,List.cons_append,List.nil_append] at hx hr KF0;have HX:=Hd hx;have HR:=Hd hr;have z8:=Ch hx 8;simp only[List.getElem?_toArray,List.getElem?_cons_zero,List.getElem?_cons_succ] at z8
 cases kn with
 | true=>
  obtain⟨l,A,c,rfl,hls,hfl,hne⟩:=hkn rfl;have z7:=Ch hx 7;simp only[List.getElem?_toArray,List.getElem?_cons_zero,List.getElem?_cons_succ] at z7;have HFIN:Hid (∃ l' A' c',(Ending.returned (.slice A l.length c):Ending)=.returned (.slice A' l'.length c')/\ListS w l' A'/\FrL (.mk k4 s4 n4 ps4 fs4 vs4) l'/\P1 Z w A' c'/\StaS K Z w sb (.mk k4 s4 n4 ps4 fs4 vs4) nd/\ButG (fun x=>x=sb) w w):=Hd ⟨l,A,c,rfl,hls,hfl,hne,⟨_,_,true,hx,hr,fun _=>⟨l,A,c,rfl,hls,hfl,hne⟩⟩,ButG.refl _ _⟩;clear hkn hls hfl hne hx hr KF0 hK hsb hwk hZ hf hv hc;go_enter Tryz.func115,Tryz.ntmps115;go_wp2_with fail;go_ret
  exact HFIN.out
 | false=>
  have KF:=Hd KF0;obtain⟨z0,z1,z2,z3,z4,z5⟩:w.cell? ⟨sb,0,none⟩=some (.int .i64 k4)/\w.cell? ⟨sb,1,none⟩=some (.string s4)/\w.cell? ⟨sb,2,none⟩=some (.int .i64 n4)/\w.cell? ⟨sb,3,none⟩=some (.slice A4 ps4.length c4)/\w.cell? ⟨sb,4,none⟩=some (.slice B4 fs4.length d4)/\w.cell? ⟨sb,5,none⟩=some (.slice C4 vs4.length e4):=⟨Ch hx 0,Ch hx 1,Ch hx 2,Ch hx 3,Ch hx 4,Ch hx 5⟩;clear hkn hx hr KF0 hK hsb hwk hZ hf hv hc;go_enter Tryz.func115,Tryz.ntmps115;go_upto_region 2 with fail
  clear z8;go_wp2_with fail;refine KF.out.mono ?_;rintro e w2 ⟨l,A,c,rfl,hls,hmem,hlen,-,hcn,hfr,hb⟩;have hx2:=Bc hb HSB.out HX.out;have y7:=Ch hx2 7;have f7:=Lib.frozen_of_heap hx2 7;have y8:=Ch hx2 8;have f8:=Lib.frozen_of_heap hx2 8;simp only[List.getElem?_toArray,List.getElem?_cons_zero,List.getElem?_cons_succ] at y7 y8;obtain⟨w3,hw3⟩:∃ x,x=(w2.setCell ⟨sb,7,none⟩ (.slice A l.length c)).setCell ⟨sb,8,none⟩ (.bool true):=⟨_,rfl⟩;have hx3:w3.heap[sb]?=some (.cells #[.int .i64 k4,.string s4,.int .i64 n4,.slice A4 ps4.length c4,.slice B4 fs4.length d4,.slice C4 vs4.length e4,.int .i64 nd,.slice A l.length c,.bool true] 120 (0,0)):=by
   rw[hw3];exact Co (Co hx2 7 _) 8 _
  have hb23:ButG (fun x=>x=sb) w2 w3:=by rw[hw3];exact ((ButG.refl _ _).put1 7 _).put1 8 _
  have hne:P1 Z w3 A c:=⟨hcn,fun b o e=>by have h1:=hfr b o e;have h2:=hb23.size;exact⟨by omega,fun hz=>by have:=HWK.out b hz;omega⟩⟩;have hls3:ListS w3 l A:=hls.but hb23 fun b o e h=>(hne.2 b o e).2 (h ▸ HZ.out);have y3:=Ch hx3 7;simp only[List.getElem?_toArray,List.getElem?_cons_zero,List.getElem?_cons_succ] at y3;have HFIN:Hid (∃ l' A' c',(Ending.returned (.slice A l.length c):Ending)=.returned (.slice A' l'.length c')/\ListS w3 l' A'/\FrL (.mk k4 s4 n4 ps4 fs4 vs4) l'/\P1 Z w3 A' c'/\StaS K Z w3 sb (.mk k4 s4 n4 ps4 fs4 vs4) nd/\ButG (fun x=>x=sb) w w3):=Hd ⟨l,A,c,rfl,hls3,⟨hmem,hlen⟩,hne,⟨[.int .i64 k4,.string s4,.int .i64 n4,.slice A4 ps4.length c4,.slice B4 fs4.length d4,.slice C4 vs4.length e4],_,true,hx3,(HR.out.later hb).but hb23 fun x hx=>⟨(HK.out x hx).2,hx⟩,fun _=>⟨l,A,c,rfl,hls3,⟨hmem,hlen⟩,hne⟩⟩,(ButG.of_below hb).trans hb23 fun x h=>.inl h⟩;have HW3:=Hd hw3;clear hls hmem hlen hfr hcn hb hx2 hw3 hx3 hb23 hne hls3 KF z0 z1 z2 z3 z4 z5;go_upto_region 3 with fail
  rw[<-HW3.out];clear y7 f7 y8 f8;go_wp2_with fail;go_ret
  exact HFIN.out
def Jfv:Option Nat->Value
 | none=>.pointer none
 | some b=>.pointer (some ⟨b,0,none⟩)
def Jdy:Option Nat->DataW Unit
 | none=>.lit (.int .i64 (-1))
 | some b=>.lit (.int .i64 b)
def Jfj:Value->Option (DataW Unit×List MemPlace)
 | .pointer none=>some (.lit (.int .i64 (-1)),[])
 | .pointer (some ⟨b,0,none⟩)=>some (.lit (.int .i64 b),[])
 | _=>none
def La:MK Tryz.prog (Option Nat) where
 T:=79
 S:=9
 E:=80
 val:=Jfv
 dat:=Jdy
 zero:=none
 R:=Jfj
 hR:=fun a=>by cases a <;> rfl
 inv:=fun {v a ps} h=>by
  unfold Jfj at h
  split at h
  ·cases a with
   | none=>rfl
   | some b=>
    simp only[Jdy,Option.some.injEq,Prod.mk.injEq,DataW.lit.injEq,Lit.int.injEq,true_and] at h;omega
  ·cases a with
   | none=>
    simp only[Jdy,Option.some.injEq,Prod.mk.injEq,DataW.lit.injEq,Lit.int.injEq,true_and] at h;omega
   | some b=>
    simp only[Jdy,Option.some.injEq,Prod.mk.injEq,DataW.lit.injEq,Lit.int.injEq,true_and] at h;have:=h.1;rename_i b';obtain rfl:b'=b:=by omega
    rfl
  ·cases h
 hS:=Tryz.underlying9
 hT:=Tryz.underlying79
 hz:=fun _=>by kernel_rfl
def Iu (act:Bool) (n0:ByteArray) (sb:Nat):ByteArray->Option (Option Nat):=fun x=>if (act && decide (n0=x))=true then some (some sb) else none
def EnvP (wk sb:Nat) (n0:ByteArray) (w:World) (m:Option Nat) (act:Bool):Prop:=match m with
 | none=>act=false
 | some b=>b≠sb/\b≠wk/\b<w.heap.size/\∃ n,n<=1/\MapIs La w b n (Iu act n0 sb)
theorem EnvP.but {wk sb:Nat} {n0:ByteArray} {w w':World} {m:Option Nat} {act:Bool} {O:Nat->Prop} (h:EnvP wk sb n0 w m act) (hb:ButG O w w') (hO:∀ x,O x->x=wk\/x=sb\/w.heap.size<=x):EnvP wk sb n0 w' m act:=by
 cases m with
 | none=>exact h
 | some b=>
  obtain⟨h1,h2,h3,n,h4,h5⟩:=h;refine⟨h1,h2,Nat.lt_of_lt_of_le h3 hb.size,n,h4,h5.keep (hb.block b h3 fun e=>?_)⟩;rcases hO b e with h | h | h
  ·exact h2 h
  ·exact h1 h
  ·omega
theorem EnvP.len {wk sb:Nat} {n0:ByteArray} {w:World} {m:Option Nat} {act:Bool} (h:EnvP wk sb n0 w m act):∃ z:Int,(Builtin.len_ #[79] 3 #[.map m]).run Tryz.prog w=.ok (.int .i64 z) w/\decide (z=0) = !act:=by
 cases m with
 | none=>
  have h':act=false:=h;subst h';refine⟨0,?_,rfl⟩;simp[Builtin.len_,run_underlying Tryz.underlying79,goInt,Result.andThen]
 | some b=>
  obtain⟨h1,h2,h3,n,h4,L,h5,h6,h7⟩:=h;refine⟨_,h5.len Tryz.underlying79 _,?_⟩;rw[G2]
  cases L with
  | nil=>
   have h8:=h7 n0;rw[Vw] at h8;unfold Iu at h8
   cases act with
   | false=>rfl
   | true=>simp at h8
  | cons f r=>
   have h8:=h7 f.1;rw[Dc,if_pos rfl] at h8;unfold Iu at h8
   cases act with
   | false=>simp at h8
   | true=>simp;omega
theorem EnvP.look {wk sb:Nat} {n0:ByteArray} {w:World} {m:Option Nat} {act:Bool} (h:EnvP wk sb n0 w m act) (s:ByteArray) (hs:s.size<=maxLen):(Instr.lookup 79 (.map m) (.string s) true).run Tryz.prog w=.ok (.tuple #[if (act && decide (n0=s))=true then .pointer (some ⟨sb,0,none⟩) else .pointer none,.bool (act && decide (n0=s))]) w:=by
 cases m with
 | none=>
  have h':act=false:=h;subst h';exact La.nil2 w s
 | some b=>
  obtain⟨h1,h2,h3,n,h4,h5⟩:=h;have h6:=h5.look2 s hs;unfold Iu at h6
  cases hq:act && decide (n0=s) with
  | false=>rw[hq] at h6;exact h6
  | true=>rw[hq] at h6;exact h6
theorem EnvP.new {wk sb:Nat} {n0:ByteArray} {w:World} (hwk:wk<w.heap.size) (hsb:sb<w.heap.size):EnvP wk sb n0 (w.alloc (.map #[] 0)) (some w.heap.size) false:=by
 refine⟨by omega,by omega,?_,0,Nat.zero_le _,?_⟩
 ·simp
 ·have h:=MapIs.new La w;have e:Iu false n0 sb=fun _=>none:=by funext x;simp[Iu]
  rw[e];exact h
theorem EnvP.put {wk sb:Nat} {n0:ByteArray} {w:World} {b:Nat} (h:EnvP wk sb n0 w (some b) false) (hs:n0.size<=maxLen) :
  ∃ w',(Instr.mapUpdate 79 (.map (some b)) (.string n0) (.pointer (some ⟨sb,0,none⟩))).run Tryz.prog w=.ok () w'/\EnvP wk sb n0 w' (some b) true/\ButG (fun x=>x=b) w w':=by
 obtain⟨h1,h2,h3,n,h4,L,h5,h6,h7⟩:=h;have hL:L=[]:=by
  cases L with
  | nil=>rfl
  | cons f r=>
   have h8:=h7 f.1;rw[Dc,if_pos rfl] at h8;simp[Iu] at h8
 subst hL;have h0:MapIs La w b 0 (Iu false n0 sb):=⟨[],h5,Nat.le_refl _,h7⟩;obtain⟨w',hr,hm,hg⟩:=h0.put (by omega) n0 hs (some sb);have hb:=Ie hg;refine⟨w',hr,⟨h1,h2,Nat.lt_of_lt_of_le h3 hb.size,1,Nat.le_refl _,?_⟩,hb⟩;have e:Ho (Iu false n0 sb) n0 (some sb)=Iu true n0 sb:=by
  funext x;unfold Ho Iu;by_cases e:n0=x <;> simp[e]
 rw[<-e];exact hm
theorem ListS.butL {w w':World} {l:List ByteArray} {A:Option Addr} {O:Nat->Prop} (h:ListS w l A) (hb:ButG O w w') (hO:∀ b o,A=some ⟨b,o,none⟩->b<w.heap.size->¬ O b):ListS w' l A:=by
 obtain⟨b,o,hA,hl,hat⟩:=h;refine⟨b,o,hA,hl,fun i hi=>?_⟩;have h1:=hat i hi;have hlt:b<w.heap.size:=World.block_lt_of_cell? _ _ h1;exact hb.cell (hO b o (hA (by omega)) hlt) h1
theorem Lm {K:Nat->Prop} {w:World} (t:Ty):∀ cs,RepT K w t cs->∀ x∈Ge t,x.size<=1000000000000000:=by
 refine Ty.ind (C:=fun t=>∀ cs,RepT K w t cs->∀ x∈Ge t,x.size<=1000000000000000) (fun k s n ps fs vs hp hf hv cs hr x hx=>?_) t;obtain⟨A,c,B,d,C,e,-,ht,hL,hF,hV⟩:=hr.inv;rw[Eo,List.mem_append,List.mem_append,List.mem_append] at hx;rcases hx with hx | hx | hx | hx
 ·split at hx
  ·obtain rfl:x=s:=by simpa using hx
   exact ht
  ·cases hx
 ·obtain⟨l,hl,hx⟩:=List.mem_flatten.1 hx;obtain⟨v,hv2,rfl⟩:=List.mem_map.1 hl;obtain⟨l,hl,hx⟩:=List.mem_flatten.1 hx;obtain⟨b,hb2,rfl⟩:=List.mem_map.1 hl;obtain⟨i,hi,rfl⟩:=List.getElem_of_mem hv2;obtain⟨_,_,-,-,hat⟩:=hV.at (Nat.lt_of_le_of_lt (Nat.zero_le i) hi);obtain⟨B2,d2,-,-,-,hL2⟩:=hat i hi;obtain⟨j,hj,rfl⟩:=List.getElem_of_mem hb2;obtain⟨_,_,-,-,hat2⟩:=hL2.at (Nat.lt_of_le_of_lt (Nat.zero_le j) hj);obtain⟨cs2,-,hr2⟩:=hat2 j hj;exact hv _ (List.getElem_mem hi) _ (List.getElem_mem hj) cs2 hr2 x hx
 ·obtain⟨l,hl,hx⟩:=List.mem_flatten.1 hx;obtain⟨p,hp2,rfl⟩:=List.mem_map.1 hl;obtain⟨i,hi,rfl⟩:=List.getElem_of_mem hp2;obtain⟨_,_,-,-,hat⟩:=hL.at (Nat.lt_of_le_of_lt (Nat.zero_le i) hi);obtain⟨cs2,-,hr2⟩:=hat i hi;exact hp _ (List.getElem_mem hi) cs2 hr2 x hx
 ·obtain⟨l,hl,hx⟩:=List.mem_flatten.1 hx;obtain⟨f,hf2,rfl⟩:=List.mem_map.1 hl;obtain⟨i,hi,rfl⟩:=List.getElem_of_mem hf2;obtain⟨_,_,-,-,hat⟩:=hF.at (Nat.lt_of_le_of_lt (Nat.zero_le i) hi);obtain⟨-,-,-,cs2,-,hr2⟩:=hat i hi;exact hf _ (List.getElem_mem hi) cs2 hr2 x hx
end Go.Proofs.YtlpfpehegddcfaaGreatDoor
