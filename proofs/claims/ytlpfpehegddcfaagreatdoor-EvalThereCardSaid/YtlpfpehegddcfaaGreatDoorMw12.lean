import Derived.Test.YtlpfpehegddcfaaGreatDoorMw11
namespace Go.Proofs.YtlpfpehegddcfaaGreatDoor
set_option maxRecDepth 100000
set_option maxHeartbeats 64000000
open Go.RowKit
theorem Jef (w:World):Calls Tryz.prog 178 #[.int .u64 0] w fun e w'=>e=.returned (.int .i64 0)/\w'=w:=by
 have e0:wrap64 (Lib.len8 0)=0:=by kernel_rfl
 have e1:wrap64 0=0:=by kernel_rfl
 go_enter Tryz.func178,Tryz.ntmps178;go_wp2_with fail;go_ret
 exact⟨rfl,rfl⟩
theorem Jfx (w:World):Calls Tryz.prog 140 #[.int .u64 0] w fun e w'=>e=.returned (.int .i64 0)/\w'=w:=by
 go_enter Tryz.func140,Tryz.ntmps140;go_wp2_with fail;refine (Jef _).mono ?_;rintro e w' ⟨rfl,hw⟩;obtain rfl:=hw.symm;go_wp2_with fail;go_ret
 exact⟨rfl,rfl⟩
theorem Jea (w:World) (A:Option Addr) (c:Nat):Calls Tryz.prog 191 #[.slice A 0 c,.int .i64 0,.int .i64 0] w fun e w'=>e=.returned (.tuple #[])/\w'=w:=by
 go_enter Tryz.func191,Tryz.ntmps191;go_wp2_with fail
 go_loopw [6] (fun v wr=>v=.int .i64 1/\wr=w) (fun _ _=>0)
 case atStart=>exact⟨rfl,rfl⟩
 case round=>
  obtain⟨rfl,rfl⟩:=hrel;go_wp2_with fail
  go_end0
  exact⟨rfl,rfl⟩
theorem Jgr (w:World) (A:Option Addr) (c:Nat):Calls Tryz.prog 168 #[.slice A 0 c,.int .i64 0,.int .i64 0,.int .i64 0] w fun e w'=>e=.returned (.tuple #[])/\w'=w:=by
 go_enter Tryz.func168,Tryz.ntmps168;go_wp2_with fail
 go_loopw [1,2,3,8,9] (fun a b l x y wr=>a=.int .i64 0/\b=.int .i64 0/\l=.int .i64 0/\x=.bool true/\y=.bool true/\wr=w) (fun _ _ _ _ _ _=>0)
 case atStart=>exact⟨rfl,rfl,rfl,rfl,rfl,rfl⟩
 case round=>
  obtain⟨rfl,rfl,rfl,rfl,rfl,rfl⟩:=hrel;go_wp2_with fail;refine (Jea _ _ _).mono ?_;rintro e w' ⟨rfl,hw⟩;obtain rfl:=hw.symm;go_wp2_with fail;exact bodyPost_ret (v:=.tuple #[]) (by simp[results,Tryz.results168,go_sem]) rfl ⟨rfl,rfl⟩
theorem Jgf (w:World) (A:Option Addr) (c:Nat):Calls Tryz.prog 133 #[.slice A 0 c] w fun e w'=>e=.returned (.tuple #[])/\w'=w:=by
 go_enter Tryz.func133,Tryz.ntmps133;go_wp2_with fail;refine (Jfx _).mono ?_;rintro e w' ⟨rfl,hw⟩;obtain rfl:=hw.symm;go_wp2_with fail;refine (Jgr _ _ _).mono ?_;rintro e w' ⟨rfl,hw⟩;obtain rfl:=hw.symm;go_wp2_with fail
 go_end0
 exact⟨rfl,rfl⟩
theorem Xi (w:World) (A:Option Addr) (c:Nat):Calls Tryz.prog 134 #[.slice A 0 c] w fun e w'=>e=.returned (.slice A 0 c)/\w'=w:=by
 go_enter Tryz.func134,Tryz.ntmps134;go_wp2_with fail;go_ret
 exact⟨rfl,rfl⟩
def AtP (t k:Ty):Prop:=∀(K:Nat->Prop) (w:World) (cs ds:List Value),An K w t cs->An K w k ds->(∀b,K b->b<w.heap.size)->Ai t=true->Ai k=true->Am t<=5000->Am k<=5000 ->
 Calls Tryz.prog 85 #[.agg cs.toArray,.agg ds.toArray] w (Ek K w (Zh t k))
theorem Jeq (a b:Z8):B6 (Cf a) (Cf b)=Dt a b:=by
 unfold Cf;rw[Ln];have e1:Dr 10 10=0:=rfl;have e2:Dr 0 0=0:=rfl;have e3:Cb (Bz []) (Bz [])=0:=rfl;have e4:Cb (Ea []) (Ea [])=0:=rfl;have e5:Cb (Eb []) (Eb [])=0:=rfl;rw[e1,e2,e3,e4,e5,Bo,Bo,Bo,Bo];unfold F2
 split
 ·rfl
 ·rename_i h;have h2:Dt a b=0:=by simpa using h
  exact h2.symm
theorem Wx {t:Ty}(hk:t.k=14) (s:Z8):Zh t (Cf s)=Gj t.fs s:=by
 rw[Zq,if_neg (by rw[Im];decide),if_neg (by omega),if_neg (by rw[Im];decide),if_neg (by omega),if_pos ⟨hk,Im s⟩];rfl
open Go.Shelf Go.RowKit Go.Lib Go.Sort
theorem Jd8:∀w,(isAgg (Il.t 24)).run Tryz.prog w=.ok true w:=fun _=>by kernel_rfl
theorem Jcm:∀w,(Go.sizeOf (Il.t 24)).run Tryz.prog w=.ok 6 w:=fun _=>by kernel_rfl
theorem Jdn:∀args w,(callFunc 101 args).run Tryz.prog w=.ok (.enter 101 args) w:=enters_of Tryz.func101 (by kernel_rfl) rfl
theorem Jcp:Jfl:=by
 intro K w0 w g c l h hb hg hR
 classical
 have hF:∀i:Fin l.length,∃x:TyC K w0,x.1.1=l[i]/\∀(j:Nat) (u:Value),(Mx x)[j]?=some u->w.cell? ⟨g,i.1*6+j,none⟩=some u:=fun i=>by
  obtain⟨cs,h1,h2⟩:=h.reps i.1 l[i] (List.getElem?_eq_getElem i.2);exact⟨⟨(l[i],cs),h1⟩,rfl,h2⟩
 obtain⟨f,hf⟩:∃f:Fin l.length->TyC K w0,∀i,(f i).1.1=l[i]/\∀(j:Nat) (u:Value),(Mx (f i))[j]?=some u->w.cell? ⟨g,i.1*6+j,none⟩=some u:=⟨fun i=>(hF i).choose,fun i=>(hF i).choose_spec⟩;obtain⟨d,hd⟩:∃d:Array (TyC K w0),d=Array.ofFn f:=⟨_,rfl⟩;have hA:d.size=l.length:=by rw[hd];simp
 have hE:∀i (hi:i<l.length),d[i]! = f ⟨i,hi⟩:=fun i hi=>by rw[getElem!_pos d i (by omega)];simp[hd]
 have hL:d.toList.map (fun x=>x.1.1)=l:=by
  refine List.ext_getElem (by simpa using hA) fun i h1 h2=>?_;rw[List.getElem_map,Array.getElem_toList];have:=hE i h2;rw[getElem!_pos d i (by omega)]at this;rw[this,(hf ⟨i,h2⟩).1];rfl
 have hH:HoldsK Mx 6 w g 0 d:=by
  intro t ht;have ht':t<d.size*6:=by simpa using ht
  have hi:t / 6<l.length:=by omega
  have hj:t % 6<6:=by omega
  have hP:=Nt (f ⟨t / 6,hi⟩);refine⟨?_,(h.there (j:=0+t) (by have:=h.le;omega)).2⟩;rw[get_flatK _ _ _ _ ht',hE _ hi];have h3:=(hf ⟨t / 6,hi⟩).2 (t % 6) _ (List.getElem?_eq_getElem (by omega));rw[show (⟨t / 6,hi⟩:Fin l.length).1*6+t % 6=0+t from by show t / 6*6+t % 6=_;omega]at h3;rw[h3,getElem!_pos _ _ (by omega)];rfl
 have main:=AnyQ.slices_SortFunc Jcn 6 Jd8 Jcm Mx Nt Φ cfC (Jha K w0) 101 #[] g 0 c d w Jdn (Jg0 hb hg) hH h.lt (by omega);rw[hA]at main;refine main.mono ?_;rintro e w' ⟨rfl,d',n,os,hp,hs,rfl⟩;have hD:d'.size=l.length:=hp.1.trans hA;have hC:d'.toList.Perm d.toList:=by
  have h3:=hp.2.2;have e1:(d'.extract 0 l.length).toList=d'.toList:=by rw[<-hD];simp
  have e2:(d.extract 0 l.length).toList=d.toList:=by rw[<-hA];simp
  rwa [e1,e2]at h3
 refine⟨rfl,U6 hb hg,d'.toList.map (fun x=>x.1.1),?_,?_,by simpa using hD,?_⟩
 ·refine List.pairwise_map.2 (List.pairwise_iff_getElem.2 fun i j hi hj hM=>?_);have hi':i<d'.size:=by simpa using hi
  have hj':j<d'.size:=by simpa using hj
  have h4:=S5.1 (hs i j (Nat.zero_le _) hM (by omega));rw[getElem!_pos d' i hi',getElem!_pos d' j hj',Ez]at h4;simp only[Array.getElem_toList];omega
 ·intro x;rw[<-hL];exact (hC.map _).mem_iff
 ·have hH':=holdsK_sortWorldK (Mx (K:=K) (w0:=w0)) 6 w g 0 n d d' os h.lt hH (hD.trans hA.symm);obtain⟨cur,hG,hI⟩:=h.blk;obtain⟨cur',hJ,hK⟩:=Zt (enc:=Mx (K:=K) (w0:=w0)) (m:=n) (dk:=d') (os:=os) hG;refine⟨by rw[List.length_map,Array.length_toList,hD];exact h.le,h.mx,⟨cur',hJ,hK.trans hI⟩,fun i t hi=>?_⟩;obtain⟨hQ,rfl⟩:=List.getElem?_eq_some_iff.1 hi;have hB:i<d'.size:=by simpa using hQ
  refine⟨Mx d'[i],by rw[List.getElem_map,Array.getElem_toList];exact d'[i].2,fun j u hj=>?_⟩;obtain⟨hN,hO⟩:=List.getElem?_eq_some_iff.1 hj;have h6:=Nt d'[i];have h7:=(hH'.cell (i:=i) (c:=j) hB (by omega)).1;rw[Nat.zero_add,getElem!_pos d' i hB,getElem!_pos _ j hN,hO]at h7;exact h7
theorem Vx {K K':Nat->Prop}{w:World}{t t':Ty}{cs cs':List Value}(h:An K w t cs) (h':An K' w t' cs') :
  Calls Tryz.prog 103 #[.agg cs.toArray,.agg cs'.toArray] w fun e w'=>e=.returned (.bool (B6 t t' == 0))/\Gw w w':=by
 have hA:Gw w (w.alloc (.cells cs.toArray 26)):=(Gw.refl w).alloc _;have hB:Gw w ((w.alloc (.cells cs.toArray 26)).alloc (.cells cs'.toArray 26)):=hA.alloc _;have a1:Dm K ((w.alloc (.cells cs.toArray 26)).alloc (.cells cs'.toArray 26)) t w.heap.size 0:=(Dm.box _ h).later ((Below.refl _ _).alloc (Nat.le_refl _) _);have a2:Dm K' ((w.alloc (.cells cs.toArray 26)).alloc (.cells cs'.toArray 26)) t' (w.heap.size+1) 0:=by
  have:=Dm.box (w:=w.alloc (.cells cs.toArray 26)) 26 (h'.later hA.below);rw[World.size_alloc]at this;exact this
 have KO:=Hd ((Lo t K K' t').ok _ _ _ _ _ a1 a2);have HB:=Hd hB;obtain⟨k,s,n,ps,fs,vs⟩:=t;obtain⟨k',s',n',ps',fs',vs'⟩:=t';obtain⟨A,c,A',c',A'',c'',rfl,_⟩:=h.inv;obtain⟨B,d,B',d',B'',d'',rfl,_⟩:=h'.inv;clear a1 a2 hA hB h h';generalize B6 (.mk k s n ps fs vs) (.mk k' s' n' ps' fs' vs')=r at KO ⊢;simp only[Ao]at KO HB ⊢;go_enter Tryz.func103,Tryz.ntmps103;go_wp2_with fail;refine KO.o.mono ?_;rintro e w1 ⟨rfl,hb⟩;have HB1:=Hd (HB.o.trans hb);clear hb;go_wp2_with fail;go_ret
 exact⟨rfl,HB1.o⟩
theorem Γ:Jfi:=by
 intro w;go_enter Tryz.func102,Tryz.ntmps102;go_wp2_with fail;go_ret
 exact⟨rfl,Below.refl _ _⟩
theorem Tx {K:Nat->Prop}{w0 w:World}{g c:Nat}{s:List Ty}(h:Fm K w0 w g c s) (hb:Below w0.heap.size w0 w) (hs:s.length<2) :
  Calls Tryz.prog 102 #[.slice (some ⟨g,0,none⟩) s.length c,.func (.func 103) #[] #[]] w fun e w'=>e=.returned (.slice (some ⟨g,0,none⟩) (Ci s).length c)/\Below w0.heap.size w0 w'/\Fm K w0 w' g c (Ci s):=by
 have hd:Ci s=s:=by
  match s,hs with
  | [],_=>rfl
  | [_],_=>rfl
  | _ :: _ :: _,hs=>exact absurd hs (by simp)
 rw[hd];have H:=Hd (And.intro h hb);clear h hb hd;have t2:decide ((s.length:Int)<2)=true:=by simp;omega
 go_enter Tryz.func102,Tryz.ntmps102;go_wp2_with fail;go_ret
 exact⟨rfl,H.o.2,H.o.1⟩
theorem Ge (a b:Ty) (l:List Ty):Ci (a :: b :: l)=if B6 a b=0 then Ci (b :: l) else a :: Ci (b :: l):=by rw[Ci]
theorem J0 (a b:Ty):∀l:List Ty,Ci (l++[a,b])=if B6 a b=0 then Ci (l++[a]) else Ci (l++[a])++[b]
 | []=>by
  simp only[List.nil_append];rw[Ge];by_cases h:B6 a b=0
  ·rw[if_pos h,if_pos h,Dl.1 h]
  ·rw[if_neg h,if_neg h];rfl
 | [x]=>by
  show Ci (x :: a :: [b])=if B6 a b=0 then Ci [x,a] else Ci [x,a]++[b]
  have ih:=J0 a b [];simp only[List.nil_append]at ih;rw[Ge,ih,Ge];by_cases h1:B6 a b=0
  ·simp only[if_pos h1]
  ·simp only[if_neg h1]
   split <;> rfl
 | x :: y :: l=>by
  have ih:=J0 a b (y :: l);show Ci (x :: y :: (l++[a,b]))=if B6 a b=0 then Ci (x :: y :: (l++[a])) else Ci (x :: y :: (l++[a]))++[b]
  have ih':Ci (y :: (l++[a,b]))=if B6 a b=0 then Ci (y :: (l++[a])) else Ci (y :: (l++[a]))++[b]:=ih
  rw[Ge,ih',Ge];by_cases h1:B6 a b=0
  ·simp only[if_pos h1]
  ·simp only[if_neg h1]
   split <;> rfl
theorem Ia {s:List Ty}{n:Nat}(h0:0<n) (h:n<s.length):Ci (s.take (n+1))=if B6 s[n - 1] s[n]=0 then Ci (s.take n) else Ci (s.take n)++[s[n]]:=by
 obtain⟨m,rfl⟩:∃m,n=m+1:=⟨n - 1,by omega⟩;have e1:s.take (m+1)=s.take m++[s[m]]:=List.take_succ_eq_append_getElem (by omega);have e2:s.take (m+1+1)=s.take m++[s[m],s[m+1]]:=by rw[List.take_succ_eq_append_getElem h,e1,List.append_assoc];rfl
 rw[e2,e1,J0];rfl
theorem Jcq:Jfk:=by
 intro w;have h:=AnyF.slices_SortFunc_none (P:=Tryz.prog) (ρ:=Il) { Jcn with } none 0 (.func (.func 101) #[] #[]) w;refine h.mono ?_;rintro e w' ⟨rfl,rfl⟩;exact⟨rfl,Below.refl _ _⟩
theorem Lg {K:Nat->Prop}{w:World}{fs:Bv}{A:Option Addr}{c:Nat}{fv:Ty->Bool}(hF:Du K w fs A c) (hf:∀f∈fs,Gi f.2.2 (fv f.2.2)) :
  Calls Tryz.prog 136 #[.slice A fs.length c] w fun e w'=>e=.returned (.bool (Cd (Bn fs fv)))/\Below w.heap.size w w':=by
 have HF:=Hd hF;have HI:=Hd hf;have hlf:=hF.shortF;clear hF hf;go_enter Tryz.func136,Tryz.ntmps136;go_wp2_with fail
 go_loopw [7] (fun v wr=>∃i:Nat,i<=fs.length/\v=.int .i64 (i:Int)/\(∀j,j<i->S9 (Bn fs fv) j=true)/\Below w.heap.size w wr) (fun v _=>fs.length - (intOf v).toNat)
 case atStart=>exact⟨0,by omega,rfl,fun j hj=>absurd hj (by omega),Below.refl _ _⟩
 case round=>
  obtain⟨i,kH,rfl,kI,hL⟩:=hrel;have hX:=Hd kI;have hD:=Hd hL;clear kI;by_cases hQ:i<fs.length
  ·have t1:decide ((i:Int)<(fs.length:Int))=true:=by simp;omega
   have hW:wrap64 ((i:Int)+1)=((i+1:Nat):Int):=Ax (by omega);have HM:=Hd (Bf hQ);have hV:Z9 (i+1<=fs.length):=Hd hQ;obtain⟨b,o,hA,_,hZ⟩:=HF.o.at (by omega);subst hA;obtain⟨kA,kB,kJ,kE⟩:=hZ i hQ;have hM:S9 (Bn fs fv) i=false->Cd (Bn fs fv)=false:=fun h=>Gn (by rw[Ee];exact hQ) h;have kF:=HI.o _ (List.getElem_mem hQ);have KF:=Hd fun wx (hx:Below w.heap.size w wx)=>kF K wx b (o+i*8+2) (kE.later hx);have hH:(i=0/\S9 (Bn fs fv) i=(Ca fs[i].1 && decide (0<=fs[i].2.1) && decide (fs[i].2.1<=3) && fv fs[i].2.2))\/(∃j pn,i=j+1/\w.cell? ⟨b,o+j*8,none⟩=some (.string pn)/\S9 (Bn fs fv) i=(Ca fs[i].1 && decide (0<=fs[i].2.1) && decide (fs[i].2.1<=3) && fv fs[i].2.2 && Go.Op.bytesLess pn.toList fs[i].1.toList)):=by
    match i,hQ with
    | 0,h=>exact .inl ⟨rfl,I0 h⟩
    | j+1,h=>exact .inr ⟨j,_,rfl,(hZ j (by omega)).1,Kv h⟩
   generalize kL:fs[i].1=nm at kA kJ hH;generalize kK:fs[i].2.1=fl at kB hH;generalize kM:fv fs[i].2.2=r at KF hH;have hE:(Ca nm && decide (0<=fl) && decide (fl<=3))=false->S9 (Bn fs fv) i=false:=fun h=>by
    rcases hH with ⟨_,e⟩|⟨_,_,_,_,e⟩ <;> rw[e,h] <;> rfl
   have hT:=Aa (w:=w) (w':=wr) hL kA;have hU:=Aa (w:=w) (w':=wr) hL kB;have KN:=Hd fun wx=>Ex nm wx kJ;have hI:Z9 (∀wx,Below wr.heap.size wr wx->wx.cell? ⟨b,o+i*8,none⟩=some (.string nm)/\wx.cell? ⟨b,o+i*8+1,none⟩=some (.int .i64 fl)):=Hd fun wx hx=>⟨Aa hx hT,Aa hx hU⟩;clear hZ kA kB kL kK kM kF kE hT hU kH
   cases hq:Ca nm with
   | false=>
    have hJ:Z9 (Cd (Bn fs fv)=false):=Hd (hM (hE (by rw[hq];rfl)));rw[hq]at KN;clear hM hE hH hq hL KF;go_wp2_with fail;refine wp_region_held_drew (S:=(fun w'=>w'.cell? ⟨b,o+i*8,none⟩=some (.string nm)/\w'.cell? ⟨b,o+i*8+1,none⟩=some (.int .i64 fl))) (by kernel_rfl) (hI.o _ (Below.refl _ _).drew) (fun hB=>?_);refine Ab.s [0,1,2,3] ?_
    iterate 4 (refine Ab.k (so rfl) hB ?_;try simp only[Act.put,Az,Ba,Bb])
    refine Ab.d ?_;refine wpAnyH_ready (rs:=[4]) (by kernel_rfl) (by simp) ?_;refine AllReadyH.cons (sd (some 17) rfl) (fun K hK=>?_) AllReadyH.nil;go_simp;refine (KN.o _).mono ?_;rintro e w2 ⟨rfl,hG⟩;have hC:=Hd ((Below.refl wr.heap.size wr).drew.trans hG);clear hG;go_wp2_with fail;refine hK.out _ _ (hI.o _ hC.o) (fun hB=>?_);clear hK K;try simp only[Act.put,Az,Ba,Bb]
    refine Ab.s [5,6] ?_
    iterate 2 (refine Ab.k (so rfl) hB ?_;try simp only[Act.put,Az,Ba,Bb])
    refine Ab.d ?_;refine Ab.s [7,8,9,10,11] ?_
    iterate 5 (refine Ab.t (v:=undef) (so rfl) (by kernel_rfl) (by kernel_rfl) (by kernel_rfl) (fun _ _ _ h=>h) (Or.inr ⟨by rfl,rfl⟩) hB ?_;try simp only[Act.put,Az,Ba,Bb])
    refine Ab.d ?_;refine Ab.s [12,13] ?_
    iterate 2 (refine Ab.k (so rfl) hB ?_;try simp only[Act.put,Az,Ba,Bb])
    refine Ab.d ?_;refine Ab.s [14,15,16,17,18] ?_
    iterate 5 (refine Ab.t (v:=undef) (so rfl) (by kernel_rfl) (by kernel_rfl) (by kernel_rfl) (fun _ _ _ h=>h) (Or.inr ⟨by rfl,rfl⟩) hB ?_;try simp only[Act.put,Az,Ba,Bb])
    refine Ab.d ?_;refine Ab.s [19,20] ?_
    iterate 2 (refine Ab.k (so rfl) hB ?_;try simp only[Act.put,Az,Ba,Bb])
    refine Ab.d ?_;refine Ab.s [21,22,23,24,25,26,27,28,29,30,31,32,33,34,35] ?_
    iterate 15 (refine Ab.t (v:=undef) (so rfl) (by kernel_rfl) (by kernel_rfl) (by kernel_rfl) (fun _ _ _ h=>h) (Or.inr ⟨by rfl,rfl⟩) hB ?_;try simp only[Act.put,Az,Ba,Bb])
    refine Ab.d ?_;refine Ab.s [36,37] ?_
    iterate 2 (refine Ab.k (so rfl) hB ?_;try simp only[Act.put,Az,Ba,Bb])
    refine Ab.d ?_;refine Ab.s [38,39,40,41,42] ?_
    iterate 5 (refine Ab.t (v:=undef) (so rfl) (by kernel_rfl) (by kernel_rfl) (by kernel_rfl) (fun _ _ _ h=>h) (Or.inr ⟨by rfl,rfl⟩) hB ?_;try simp only[Act.put,Az,Ba,Bb])
    refine Ab.d ?_;refine Ab.s [43] ?_;refine Ab.k (so rfl) hB ?_;try simp only[Act.put,Az,Ba,Bb]
    refine Ab.d ?_;refine wpAnyH_done (by kernel_rfl) ?_ _;clear hB;go_wp2_with fail;go_ret
    exact⟨by rw[hJ.o];rfl,hD.o.trans (hC.o.mono hD.o.size)⟩
   | true=>
    rw[hq]at KN;by_cases hO:0<=fl
    ·by_cases hP:fl<=3
     ·have f0:decide (fl<0)=false:=(by simp;omega);have f3:decide ((3:Int)<fl)=false:=(by simp;omega);rcases hH with ⟨rfl,he⟩|⟨i,pn,rfl,kC,he⟩
      ·have HE:Z9 (S9 (Bn fs fv) 0=r):=Hd (by rw[he,hq];simp[hO,hP]);simp only[Nat.zero_mul,Nat.add_zero]at hI KF;clear hM hE he hq hL;go_wp2_with fail;refine wp_region_held_drew (S:=(fun w'=>w'.cell? ⟨b,o,none⟩=some (.string nm)/\w'.cell? ⟨b,o+1,none⟩=some (.int .i64 fl))) (by kernel_rfl) (hI.o _ (Below.refl _ _).drew) (fun hB=>?_);refine Ab.s [0,1,2,3] ?_
       iterate 4 (refine Ab.k (so rfl) hB ?_;try simp only[Act.put,Az,Ba,Bb])
       refine Ab.d ?_;refine wpAnyH_ready (rs:=[4]) (by kernel_rfl) (by simp) ?_;refine AllReadyH.cons (sd (some 17) rfl) (fun K hK=>?_) AllReadyH.nil;go_simp;refine (KN.o _).mono ?_;rintro e w2 ⟨rfl,hG⟩;have hC:=Hd ((Below.refl wr.heap.size wr).drew.trans hG);clear hG;go_wp2_with fail;refine hK.out _ _ (hI.o _ hC.o) (fun hB=>?_);clear hK K;try simp only[Act.put,Az,Ba,Bb]
       refine Ab.s [5,6,7,8,9,10,11,12,13,14,15,16,17,18,19,20,21,22,23] ?_
       iterate 19 (refine Ab.k (so rfl) hB ?_;try simp only[Act.put,Az,Ba,Bb])
       refine Ab.d ?_;refine Ab.s [24,25,26,27,28,29,30,31,32,33,34] ?_
       iterate 11 (refine Ab.t (v:=undef) (so rfl) (by kernel_rfl) (by kernel_rfl) (by kernel_rfl) (fun _ _ _ h=>h) (Or.inr ⟨by rfl,rfl⟩) hB ?_;try simp only[Act.put,Az,Ba,Bb])
       refine Ab.d ?_;refine Ab.s [35,36,37,38,39,40] ?_
       iterate 6 (refine Ab.k (so rfl) hB ?_;try simp only[Act.put,Az,Ba,Bb])
       refine Ab.d ?_;refine wpAnyH_ready (rs:=[41]) (by kernel_rfl) (by simp) ?_;refine AllReadyH.cons (sd (some 54) rfl) (fun K hK=>?_) AllReadyH.nil;go_simp;refine (KF.o _ (hD.o.trans (hC.o.mono hD.o.size))).mono ?_;rintro e w3 ⟨rfl,hS⟩;have hN:=Hd (hC.o.trans (hS.mono hC.o.size));clear hS;go_wp2_with fail;refine hK.out _ _ (hI.o _ hN.o) (fun hB=>?_);clear hK K;try simp only[Act.put,Az,Ba,Bb]
       refine Ab.s [42,43] ?_
       iterate 2 (refine Ab.k (so rfl) hB ?_;try simp only[Act.put,Az,Ba,Bb])
       refine Ab.d ?_;refine wpAnyH_done (by kernel_rfl) ?_ _;clear hB
       cases r with
       | false=>
        have hJ:Z9 (Cd (Bn fs fv)=false):=Hd (Gn (by rw[Ee];exact hV.o) HE.o);go_wp2_with fail;go_ret
        exact⟨by rw[hJ.o];rfl,hD.o.trans (hN.o.mono hD.o.size)⟩
       | true=>
        go_wp2_with fail;refine⟨⟨0+1,hV.o,by first|rfl|rw[hW],Kw hX.o HE.o,hD.o.trans (hN.o.mono hD.o.size)⟩,?_⟩;first|exact HM.o|(rw[hW];exact HM.o)
      ·have kD:=Aa (w:=w) (w':=wr) hL kC;have hR:Z9 (∀wx,Below wr.heap.size wr wx->wx.cell? ⟨b,o+i*8,none⟩=some (.string pn)):=Hd fun wx hx=>Aa hx kD;have kN:wrap64 (((i+1:Nat):Int) - 1)=((i:Nat):Int):=(by rw[Cq (by omega) (by omega)];omega);have wr1':IntKind.i64.wrap (((i+1:Nat):Int) - 1)=((i:Nat):Int):=by
        have e:IntKind.i64.wrap (((i+1:Nat):Int) - 1)=wrap64 (((i+1:Nat):Int) - 1):=(by unfold wrap64;exact IntKind.wrap_i64 _);rw[e,kN]
       have kO:wrap64 (i:Int)=(i:Int):=Cq (by omega) (by omega);have wr3':IntKind.i64.wrap (i:Int)=(i:Int):=by
        have e:IntKind.i64.wrap (i:Int)=wrap64 (i:Int):=(by unfold wrap64;exact IntKind.wrap_i64 _);rw[e,kO]
       have i2:(0:Int)<=(i:Int):=(by omega);have i3:(i:Int)<(fs.length:Int):=(by omega);have i4:(0:Int)<(i:Int)+1:=by omega
       cases kG:Go.Op.bytesLess pn.toList nm.toList with
       | true=>
        have HE:Z9 (S9 (Bn fs fv) (i+1)=r):=Hd (by rw[he,hq,kG];simp[hO,hP]);clear hM hE he hq hL kC kD;go_wp2_with fail;refine wp_region_held_drew (S:=(fun w'=>(w'.cell? ⟨b,o+(i+1)*8,none⟩=some (.string nm)/\w'.cell? ⟨b,o+(i+1)*8+1,none⟩=some (.int .i64 fl))/\w'.cell? ⟨b,o+i*8,none⟩=some (.string pn))) (by kernel_rfl) (⟨hI.o _ (Below.refl _ _).drew,hR.o _ (Below.refl _ _).drew⟩) (fun hB=>?_);refine Ab.s [0,1,2,3] ?_
        iterate 4 (refine Ab.k (so rfl) hB ?_;try simp only[Act.put,Az,Ba,Bb])
        refine Ab.d ?_;refine wpAnyH_ready (rs:=[4]) (by kernel_rfl) (by simp) ?_;refine AllReadyH.cons (sd (some 17) rfl) (fun K hK=>?_) AllReadyH.nil;go_simp;refine (KN.o _).mono ?_;rintro e w2 ⟨rfl,hG⟩;have hC:=Hd ((Below.refl wr.heap.size wr).drew.trans hG);clear hG;go_wp2_with fail;refine hK.out _ _ (⟨hI.o _ hC.o,hR.o _ hC.o⟩) (fun hB=>?_);clear hK K;try simp only[Act.put,Az,Ba,Bb]
        refine Ab.s [5,6,7,8,9,10,11,12,13,14,15,16,17,18,19,20,21,22,23,24,25,26,27,28,29,30,31,32,33,34,35,36,37,38,39,40] ?_
        iterate 36 (refine Ab.k (so rfl) hB ?_;try simp only[Act.put,Az,Ba,Bb])
        refine Ab.d ?_;refine wpAnyH_ready (rs:=[41]) (by kernel_rfl) (by simp) ?_;refine AllReadyH.cons (sd (some 54) rfl) (fun K hK=>?_) AllReadyH.nil;go_simp;refine (KF.o _ (hD.o.trans (hC.o.mono hD.o.size))).mono ?_;rintro e w3 ⟨rfl,hS⟩;have hN:=Hd (hC.o.trans (hS.mono hC.o.size));clear hS;go_wp2_with fail;refine hK.out _ _ (⟨hI.o _ hN.o,hR.o _ hN.o⟩) (fun hB=>?_);clear hK K;try simp only[Act.put,Az,Ba,Bb]
        refine Ab.s [42,43] ?_
        iterate 2 (refine Ab.k (so rfl) hB ?_;try simp only[Act.put,Az,Ba,Bb])
        refine Ab.d ?_;refine wpAnyH_done (by kernel_rfl) ?_ _;clear hB
        cases r with
        | false=>
         have hJ:Z9 (Cd (Bn fs fv)=false):=Hd (Gn (by rw[Ee];exact hV.o) HE.o);go_wp2_with fail;go_ret
         exact⟨by rw[hJ.o];rfl,hD.o.trans (hN.o.mono hD.o.size)⟩
        | true=>
         go_wp2_with fail;refine⟨⟨(i+1)+1,hV.o,by first|rfl|rw[hW],Kw hX.o HE.o,hD.o.trans (hN.o.mono hD.o.size)⟩,?_⟩;first|exact HM.o|(rw[hW];exact HM.o)
       | false=>
        have hJ:Z9 (Cd (Bn fs fv)=false):=Hd (hM (by rw[he,kG];simp));clear hM hE he hq hL kC kD KF;go_wp2_with fail;refine wp_region_held_drew (S:=(fun w'=>(w'.cell? ⟨b,o+(i+1)*8,none⟩=some (.string nm)/\w'.cell? ⟨b,o+(i+1)*8+1,none⟩=some (.int .i64 fl))/\w'.cell? ⟨b,o+i*8,none⟩=some (.string pn))) (by kernel_rfl) (⟨hI.o _ (Below.refl _ _).drew,hR.o _ (Below.refl _ _).drew⟩) (fun hB=>?_);refine Ab.s [0,1,2,3] ?_
        iterate 4 (refine Ab.k (so rfl) hB ?_;try simp only[Act.put,Az,Ba,Bb])
        refine Ab.d ?_;refine wpAnyH_ready (rs:=[4]) (by kernel_rfl) (by simp) ?_;refine AllReadyH.cons (sd (some 17) rfl) (fun K hK=>?_) AllReadyH.nil;go_simp;refine (KN.o _).mono ?_;rintro e w2 ⟨rfl,hG⟩;have hC:=Hd ((Below.refl wr.heap.size wr).drew.trans hG);clear hG;go_wp2_with fail;refine hK.out _ _ (⟨hI.o _ hC.o,hR.o _ hC.o⟩) (fun hB=>?_);clear hK K;try simp only[Act.put,Az,Ba,Bb]
        refine Ab.s [5,6,7,8,9,10,11,12,13,14,15,16,17,18,19,20,21,22,23,24,25,26,27,28,29,30,31,32,33,34,35,36,37] ?_
        iterate 33 (refine Ab.k (so rfl) hB ?_;try simp only[Act.put,Az,Ba,Bb])
        refine Ab.d ?_;refine Ab.s [38,39,40,41,42] ?_
        iterate 5 (refine Ab.t (v:=undef) (so rfl) (by kernel_rfl) (by kernel_rfl) (by kernel_rfl) (fun _ _ _ h=>h) (Or.inr ⟨by rfl,rfl⟩) hB ?_;try simp only[Act.put,Az,Ba,Bb])
        refine Ab.d ?_;refine Ab.s [43] ?_;refine Ab.k (so rfl) hB ?_;try simp only[Act.put,Az,Ba,Bb]
        refine Ab.d ?_;refine wpAnyH_done (by kernel_rfl) ?_ _;clear hB;go_wp2_with fail;go_ret
        exact⟨by rw[hJ.o];rfl,hD.o.trans (hC.o.mono hD.o.size)⟩
     ·have hJ:Z9 (Cd (Bn fs fv)=false):=Hd (hM (hE (by simp[hP])));have f0:decide (fl<0)=false:=(by simp;omega);have f3:decide ((3:Int)<fl)=true:=(by simp;omega);clear hM hE hH hq hL KF;go_wp2_with fail;refine wp_region_held_drew (S:=(fun w'=>w'.cell? ⟨b,o+i*8,none⟩=some (.string nm)/\w'.cell? ⟨b,o+i*8+1,none⟩=some (.int .i64 fl))) (by kernel_rfl) (hI.o _ (Below.refl _ _).drew) (fun hB=>?_);refine Ab.s [0,1,2,3] ?_
      iterate 4 (refine Ab.k (so rfl) hB ?_;try simp only[Act.put,Az,Ba,Bb])
      refine Ab.d ?_;refine wpAnyH_ready (rs:=[4]) (by kernel_rfl) (by simp) ?_;refine AllReadyH.cons (sd (some 17) rfl) (fun K hK=>?_) AllReadyH.nil;go_simp;refine (KN.o _).mono ?_;rintro e w2 ⟨rfl,hG⟩;have hC:=Hd ((Below.refl wr.heap.size wr).drew.trans hG);clear hG;go_wp2_with fail;refine hK.out _ _ (hI.o _ hC.o) (fun hB=>?_);clear hK K;try simp only[Act.put,Az,Ba,Bb]
      refine Ab.s [5,6,7,8,9,10,11,12,13,14,15,16,17,18,19,20] ?_
      iterate 16 (refine Ab.k (so rfl) hB ?_;try simp only[Act.put,Az,Ba,Bb])
      refine Ab.d ?_;refine Ab.s [21,22,23,24,25,26,27,28,29,30,31,32,33,34,35] ?_
      iterate 15 (refine Ab.t (v:=undef) (so rfl) (by kernel_rfl) (by kernel_rfl) (by kernel_rfl) (fun _ _ _ h=>h) (Or.inr ⟨by rfl,rfl⟩) hB ?_;try simp only[Act.put,Az,Ba,Bb])
      refine Ab.d ?_;refine Ab.s [36,37] ?_
      iterate 2 (refine Ab.k (so rfl) hB ?_;try simp only[Act.put,Az,Ba,Bb])
      refine Ab.d ?_;refine Ab.s [38,39,40,41,42] ?_
      iterate 5 (refine Ab.t (v:=undef) (so rfl) (by kernel_rfl) (by kernel_rfl) (by kernel_rfl) (fun _ _ _ h=>h) (Or.inr ⟨by rfl,rfl⟩) hB ?_;try simp only[Act.put,Az,Ba,Bb])
      refine Ab.d ?_;refine Ab.s [43] ?_;refine Ab.k (so rfl) hB ?_;try simp only[Act.put,Az,Ba,Bb]
      refine Ab.d ?_;refine wpAnyH_done (by kernel_rfl) ?_ _;clear hB;go_wp2_with fail;go_ret
      exact⟨by rw[hJ.o];rfl,hD.o.trans (hC.o.mono hD.o.size)⟩
    ·have hJ:Z9 (Cd (Bn fs fv)=false):=Hd (hM (hE (by simp[hO])));have f0:decide (fl<0)=true:=(by simp;omega);clear hM hE hH hq hL KF;go_wp2_with fail;refine wp_region_held_drew (S:=(fun w'=>w'.cell? ⟨b,o+i*8,none⟩=some (.string nm)/\w'.cell? ⟨b,o+i*8+1,none⟩=some (.int .i64 fl))) (by kernel_rfl) (hI.o _ (Below.refl _ _).drew) (fun hB=>?_);refine Ab.s [0,1,2,3] ?_
     iterate 4 (refine Ab.k (so rfl) hB ?_;try simp only[Act.put,Az,Ba,Bb])
     refine Ab.d ?_;refine wpAnyH_ready (rs:=[4]) (by kernel_rfl) (by simp) ?_;refine AllReadyH.cons (sd (some 17) rfl) (fun K hK=>?_) AllReadyH.nil;go_simp;refine (KN.o _).mono ?_;rintro e w2 ⟨rfl,hG⟩;have hC:=Hd ((Below.refl wr.heap.size wr).drew.trans hG);clear hG;go_wp2_with fail;refine hK.out _ _ (hI.o _ hC.o) (fun hB=>?_);clear hK K;try simp only[Act.put,Az,Ba,Bb]
     refine Ab.s [5,6,7,8,9,10,11,12,13] ?_
     iterate 9 (refine Ab.k (so rfl) hB ?_;try simp only[Act.put,Az,Ba,Bb])
     refine Ab.d ?_;refine Ab.s [14,15,16,17,18] ?_
     iterate 5 (refine Ab.t (v:=undef) (so rfl) (by kernel_rfl) (by kernel_rfl) (by kernel_rfl) (fun _ _ _ h=>h) (Or.inr ⟨by rfl,rfl⟩) hB ?_;try simp only[Act.put,Az,Ba,Bb])
     refine Ab.d ?_;refine Ab.s [19,20] ?_
     iterate 2 (refine Ab.k (so rfl) hB ?_;try simp only[Act.put,Az,Ba,Bb])
     refine Ab.d ?_;refine Ab.s [21,22,23,24,25,26,27,28,29,30,31,32,33,34,35] ?_
     iterate 15 (refine Ab.t (v:=undef) (so rfl) (by kernel_rfl) (by kernel_rfl) (by kernel_rfl) (fun _ _ _ h=>h) (Or.inr ⟨by rfl,rfl⟩) hB ?_;try simp only[Act.put,Az,Ba,Bb])
     refine Ab.d ?_;refine Ab.s [36,37] ?_
     iterate 2 (refine Ab.k (so rfl) hB ?_;try simp only[Act.put,Az,Ba,Bb])
     refine Ab.d ?_;refine Ab.s [38,39,40,41,42] ?_
     iterate 5 (refine Ab.t (v:=undef) (so rfl) (by kernel_rfl) (by kernel_rfl) (by kernel_rfl) (fun _ _ _ h=>h) (Or.inr ⟨by rfl,rfl⟩) hB ?_;try simp only[Act.put,Az,Ba,Bb])
     refine Ab.d ?_;refine Ab.s [43] ?_;refine Ab.k (so rfl) hB ?_;try simp only[Act.put,Az,Ba,Bb]
     refine Ab.d ?_;refine wpAnyH_done (by kernel_rfl) ?_ _;clear hB;go_wp2_with fail;go_ret
     exact⟨by rw[hJ.o];rfl,hD.o.trans (hC.o.mono hD.o.size)⟩
  ·have t1:decide ((i:Int)<(fs.length:Int))=false:=by simp;omega
   have hY:Z9 (Cd (Bn fs fv)=true):=Hd (Ed.2 fun j hj=>hX.o j (by rw[Ee]at hj;omega));clear kH hL;go_wp2_with fail;go_ret
   exact⟨by rw[hY.o];rfl,hD.o⟩
theorem Uz (hU:Jw) {K:Nat->Prop}{w:World}{l:List Ty}{A:Option Addr}{c:Nat}(hL:Bh K w l A c) (hQ:∀b,K b->b<w.heap.size) (hn:(Bk (E7 4 :: l)).length<=1099511627776) (hl:1+l.length<=1099511627776) :
  Calls Tryz.prog 123 #[.slice A l.length c] w (Ek K w (Bl (E7 4 :: l))):=by
 obtain⟨w1,hA⟩:∃x,x=w.alloc (.cells #[.int .i64 0,.string ⟨#[]⟩,.int .i64 0,.slice none 0 0,.slice none 0 0,.slice none 0 0] 26):=⟨_,rfl⟩;have hD:Below w.heap.size w w1:=by rw[hA];exact (Below.refl _ _).alloc (Nat.le_refl _) _
 have hF:w1.heap.size=w.heap.size+1:=by rw[hA];simp
 have hS:w1.heap[w.heap.size]?=some (.cells #[.int .i64 0,.string ⟨#[]⟩,.int .i64 0,.slice none 0 0,.slice none 0 0,.slice none 0 0] 26 (0,0)):=by rw[hA];exact heap_alloc_new w _
 have HL:=Hd (hL.later hD);have hN:=Hd hQ;have HN:=Hd hn;have HS:=Hd hl;have HB1:=Hd hD;have HS1:=Hd hF;have HX1:=Hd hS;have HU:=Hd hU;obtain⟨w2,hG⟩:∃x,x=w1.alloc (.cells #[.int .i64 4,.string ⟨#[]⟩,.int .i64 0,.slice none 0 0,.slice none 0 0,.slice none 0 0] 26):=⟨_,rfl⟩;have hB:Z9 (Cl K w1 w2 (.slice (some ⟨w.heap.size+1,0,none⟩) 1 1) [E7 4]/\Below w1.heap.size w1 w2):=Hd (by
  rw[<-hF,hG];exact⟨Cl.lit (Wi K w1 4) (Nat.le_refl _) (heap_alloc_new w1 _),(Below.refl _ _).alloc (Nat.le_refl _) _⟩)
 generalize hu:Bl (E7 4 :: l)=u;obtain⟨k2,s2,n2,hH,hC,hI⟩:=u;have hV:=Hd hu;unfold Ek;have HW1:=Hd hA;have hO:=Hd hG;clear hL hQ hn hl hD hF hS hU hA hG hu;go_enter Tryz.func123,Tryz.ntmps123;go_wp2_with (at_builtin;refine wpList_plain rfl fun Kx hK=>?_;rw[<-HW1.o,<-hO.o];go_loud (refine G4 (w0:=w1) (ts:=[E7 4]) (l:=l) _ _ rfl (by rfl) (by rfl) hB.o.1 HL.o hB.o.2 (by simpa using HS.o) ?_));intro v3 w3 hR hE _;refine hK _ _ ?_;have KU:=Hd (Qa HU.o hR (fun b h=>by have:=hN.o b h;have:=HS1.o;omega) hE HN.o (by have:=HS.o;simp only[List.length_cons];omega));have hJ:=Hd hE;clear hK Kx HW1 hO hB hR hE;go_wp2_with fail;refine KU.o.mono ?_;rintro e w4 ⟨rs,rfl,hr,hP⟩;have hM:=Hd (hJ.o.trans (hP.mono hJ.o.size));have hT:=Hd (HB1.o.trans (hM.o.mono HB1.o.size));have rb:=(hM.o.block w.heap.size (by have:=HS1.o;omega)).trans HX1.o;have hr':An (fun b=>K b\/w.heap.size<b) w4 (Bl (E7 4 :: l)) rs:=hr.weak fun b h=>h.imp id fun h=>by have:=HS1.o;omega
 clear hr hP KU;rw[hV.o]at hr';obtain⟨Aq,cq,Ag,cg,Ah,ch,rfl,-⟩:=hr'.inv;have HR:=Hd hr';simp only[Ao]at HR ⊢;clear hr';obtain⟨q0,q1,q2,q3,q4,q5,z0,z1,z2,z3,z4,z5⟩:=Hr rb;have RBX:=Hd rb;clear rb;go_wp2_with fail;have rs:=Bt RBX.o (.int .i64 k2) (.string s2) (.int .i64 n2) (.slice Aq hH.length cq) (.slice Ag hC.length cg) (.slice Ah hI.length ch);obtain⟨r0,r1,r2,r3,r4,r5⟩:=Dw rs;clear q0 q1 q2 q3 q4 q5 z0 z1 z2 z3 z4 z5 RBX rs;refine bodyPost_ret (v:=.agg #[.int .i64 k2,.string s2,.int .i64 n2,.slice Aq hH.length cq,.slice Ag hC.length cg,.slice Ah hI.length ch]) (by simp[results,Tryz.results123,go_sem,r0,r1,r2,r3,r4,r5]) rfl ?_;clear r0 r1 r2 r3 r4 r5;exact⟨[.int .i64 k2,.string s2,.int .i64 n2,.slice Aq hH.length cq,.slice Ag hC.length cg,.slice Ah hI.length ch],rfl,Fw HR.o hN.o (Nat.le_refl _) _ _ _ _ _ _,Bj hT.o (Nat.le_refl _) _ _ _ _ _ _⟩
