import Derived.Test.YtlpfpehegddcfaaGreatDoorMv37
namespace Go.Proofs.YtlpfpehegddcfaaGreatDoor
set_option maxRecDepth 100000
set_option maxHeartbeats 64000000
open Go.RowKit Go.ChangeShapes Go.WideShapes Go.Deep
def I4 (t:Ty):Prop:=Da t=true/\∀ x∈Fi t,x.size<=reachBytes
theorem Jeg {k:Int} {t:ByteArray} {n:Int} {ps:List Ty} {fs:Bp} {vs:Bm} (ht:t.size<=reachBytes) (hn:vs.length<=3518437208780) (hv:∀ v∈vs,v.1.size<=reachBytes/\∀ p∈v.2,I4 p) (hp:∀ p∈ps,I4 p) (hf:∀ f∈fs,I4 f.2.2):I4 (.mk k t n ps fs vs):=by
 constructor
 ·rw[Fv,Bool.and_eq_true,Bool.and_eq_true,Bool.and_eq_true,decide_eq_true_eq,List.all_eq_true,List.all_eq_true,List.all_eq_true];exact⟨hn,fun v h=>List.all_eq_true.2 fun b hb=>((hv v h).2 b hb).1,fun p h=>(hp p h).1,fun f h=>(hf f h).1⟩
 ·intro x hx;rw[Iz] at hx;rcases List.mem_cons.1 hx with rfl | hx
  ·exact ht
  rcases List.mem_append.1 hx with hx | hx
  ·obtain⟨v,h,rfl⟩:=List.mem_map.1 hx;exact (hv v h).1
  rcases List.mem_append.1 hx with hx | hx
  ·obtain⟨L,hL,hx⟩:=List.mem_flatten.1 hx;obtain⟨v,h,rfl⟩:=List.mem_map.1 hL;obtain⟨M,hM,hx⟩:=List.mem_flatten.1 hx;obtain⟨b,hb,rfl⟩:=List.mem_map.1 hM;exact ((hv v h).2 b hb).2 x hx
  rcases List.mem_append.1 hx with hx | hx
  ·obtain⟨L,hL,hx⟩:=List.mem_flatten.1 hx;obtain⟨p,h,rfl⟩:=List.mem_map.1 hL;exact (hp p h).2 x hx
  ·obtain⟨L,hL,hx⟩:=List.mem_flatten.1 hx;obtain⟨f,h,rfl⟩:=List.mem_map.1 hL;exact (hf f h).2 x hx
set_option maxRecDepth 100000
def Tw {H:Type} (enc:TypeId×Value->H) (W:World) (base:Nat) (held:Bool) (d:DataW H):Prop:=∀ (fuel:Nat) (cs:List Value) (p:List MemPlace),
 DataW.trod enc Tryz.prog W base (fun _=>true) held fuel 26 cs=some (d,p)->(∀ x∈d.weights Tryz.prog 26,x<=reachBytes)->∃ t,RepT (fun _=>True) W t cs/\I4 t
theorem K1 {H:Type} {enc:TypeId×Value->H} {W:World} {base:Nat} {held:Bool} {fuel:Nat} {v:Value} {d:DataW H} {p:List MemPlace}
  (h:DataW.trod enc Tryz.prog W base (fun _=>true) held fuel 22 [v]=some (d,p)) (hz:∀ x∈d.weights Tryz.prog 22,x<=reachBytes) (ih:∀ d',SizeOf.sizeOf d'<SizeOf.sizeOf d->Tw enc W base held d') :
  ∃ (l:List Ty) (A:Option Addr) (c:Nat),v=.slice A l.length c/\ListT (fun _=>True) W l A c/\∀ p∈l,I4 p:=by
 rcases open_slice Tryz.underlying22 h with ⟨e5,q5⟩ | ⟨ad,len,cap,m,nf,D,Pl,e5,hb,hl,hm,hmm,q5,hi⟩
 ·obtain rfl:v=.slice none 0 0:=by simpa using e5
  exact⟨[],none,0,rfl,⟨0,0,⟨Nat.le_refl _,by decide,fun _=>rfl,fun h=>absurd h (by simp)⟩,fun i h=>absurd h (by simp)⟩,fun p hp=>by cases hp⟩
 ·obtain rfl:v=.slice (some ad) len cap:=by simpa using e5
  have hmc:m=cap:=by rw[hmm];simp
  subst hmc;obtain⟨rfl,-⟩:d=_/\p=_:=by simpa only[Prod.mk.injEq] using q5
  have hcap:m*104<=reachBytes:=by
   have:=hz ((len+(m - len))*104) (by simp[DataW.weights,Tryz.underlying22,Jbx])
   rwa [show len+(m - len)=m by omega] at this
  have hcap2:m<=1000000000000000:=by have:=F6;omega
  have hel:∀ j,j<len->∃ t,I4 t/\∃ cs,RepT (fun _=>True) W t cs/\∀ i,i<6->W.cell? ((ad.add (j*6)).add i)=cs[i]?:=fun j hj=>by
   obtain⟨cs',hcs,htr⟩:=hi j (by omega);rw[O3] at hcs;obtain⟨_,hlen',hat⟩:=World.cells?_some hcs;have hmem:D j∈(List.range len).map D:=List.mem_map.2 ⟨j,List.mem_range.2 hj,rfl⟩;obtain⟨t,ht,hbt⟩:=ih (D j) (by
    have h1:=List.sizeOf_lt_of_mem hmem;simp;omega) nf cs' (Pl j) htr (fun x hx=>hz x (by
    simp only[DataW.weights,Tryz.underlying22];exact List.mem_cons_of_mem _ (List.mem_append_left _ (H5 hmem hx))))
   exact⟨t,hbt,cs',ht,hat⟩
  obtain⟨b,o,hrow,had⟩:=Te (W:=W) (ad:=ad) (n0:=0) hl hcap2 (fun h0=>by
   obtain⟨t,-,cs,hr,hat⟩:=hel 0 h0;have h6:=hr.six;have:=hat 0 (by omega);rw[Hs,Nat.zero_mul,List.getElem?_eq_getElem (by omega)] at this;exact⟨by rw[this];rfl,rfl⟩)
  obtain⟨l,hll,hlp⟩:=Is (C:=fun j t=>I4 t/\∃ cs,RepT (fun _=>True) W t cs/\∀ i,i<6->W.cell? ((ad.add (j*6)).add i)=cs[i]?) hel;subst hll;refine⟨l,some ad,m,rfl,⟨b,o,hrow,fun i hi2=>?_⟩,fun p hp=>by
   obtain⟨i,hi2,rfl⟩:=List.getElem_of_mem hp;exact (hlp i hi2).1⟩
  have ha:=had (by omega);subst ha;obtain⟨-,cs,hr,hat⟩:=hlp i hi2;refine⟨cs,fun j u hj=>?_,hr⟩;have hj6:=(List.getElem?_eq_some_iff.1 hj).1;rw[hr.six] at hj6;have:=hat j hj6;rw[Hs,I2,<-Nat.add_assoc] at this;rw[this,hj]
theorem Pp {H:Type} {enc:TypeId×Value->H} {W:World} {base:Nat} {held:Bool} {fuel:Nat} {v:Value} {d:DataW H} {p:List MemPlace}
  (h:DataW.trod enc Tryz.prog W base (fun _=>true) held fuel 23 [v]=some (d,p)) (hz:∀ x∈d.weights Tryz.prog 23,x<=reachBytes) (ih:∀ d',SizeOf.sizeOf d'<SizeOf.sizeOf d->Tw enc W base held d') :
  ∃ (l:Bp) (A:Option Addr) (c:Nat),v=.slice A l.length c/\ListF (fun _=>True) W l A c/\∀ f∈l,I4 f.2.2:=by
 rcases open_slice Tryz.underlying23 h with ⟨e5,q5⟩ | ⟨ad,len,cap,m,nf,D,Pl,e5,hb,hl,hm,hmm,q5,hi⟩
 ·obtain rfl:v=.slice none 0 0:=by simpa using e5
  exact⟨[],none,0,rfl,⟨0,0,⟨Nat.le_refl _,by decide,fun _=>rfl,fun h=>absurd h (by simp)⟩,fun i h=>absurd h (by simp)⟩,fun p hp=>by cases hp⟩
 ·obtain rfl:v=.slice (some ad) len cap:=by simpa using e5
  have hmc:m=cap:=by rw[hmm];simp
  subst hmc;obtain⟨rfl,-⟩:d=_/\p=_:=by simpa only[Prod.mk.injEq] using q5
  have hcap:m*128<=reachBytes:=by
   have:=hz ((len+(m - len))*128) (by simp[DataW.weights,Tryz.underlying23,Jby])
   rwa [show len+(m - len)=m by omega] at this
  have hcap2:m<=1000000000000000:=by have:=F6;omega
  have hel:∀ j,j<len->∃ f:ByteArray×Int×Ty,I4 f.2.2/\W.cell? (ad.add (j*8))=some (.string f.1)/\W.cell? (ad.add (j*8+1))=some (.int .i64 f.2.1)/\f.1.size<=1000000000000000/\∃ cs,RepT (fun _=>True) W f.2.2 cs/\∀ i,i<6->W.cell? (ad.add (j*8+2+i))=cs[i]?:=fun j hj=>by
   obtain⟨cs',hcs,htr⟩:=hi j (by omega);rw[Jb5] at hcs;obtain⟨_,hlen',hat⟩:=World.cells?_some hcs;have hmem:D j∈(List.range len).map D:=List.mem_map.2 ⟨j,List.mem_range.2 hj,rfl⟩;have hzD:∀ x∈(D j).weights Tryz.prog 59,x<=reachBytes:=fun x hx=>hz x (by
    simp only[DataW.weights,Tryz.underlying23];exact List.mem_cons_of_mem _ (List.mem_append_left _ (H5 hmem hx)))
   have hsz:=List.sizeOf_lt_of_mem hmem;obtain⟨xs,n',hfu,hx,_,hxl,hf⟩:=DataW.trod_struct Tryz.underlying59 htr
   match cs',hlen' with
   | [v0,v1,v2,v3,v4,v5,v6,v7],_=>
    match xs,hxl with
    | [y0,y1,y2],_=>
     have h0:DataW.trod enc Tryz.prog W base (fun _=>true) held n' 9 (([v0,v1,v2,v3,v4,v5,v6,v7].drop 0).take (Tryz.prog.cellsOf 9))=some y0:=hf 0 _ rfl;have h1:DataW.trod enc Tryz.prog W base (fun _=>true) held n' 3 (([v0,v1,v2,v3,v4,v5,v6,v7].drop 1).take (Tryz.prog.cellsOf 3))=some y1:=hf 1 _ rfl;have h2:DataW.trod enc Tryz.prog W base (fun _=>true) held n' 26 (([v0,v1,v2,v3,v4,v5,v6,v7].drop 2).take (Tryz.prog.cellsOf 26))=some y2:=hf 2 _ rfl;rw[Xy] at h0;rw[Jeb] at h1;rw[O3] at h2;obtain⟨s,e0,q0,_⟩:=DataW.trod_string Tryz.underlying9 h0;obtain⟨g,e1,q1,_⟩:=DataW.trod_int Tryz.underlying3 h1;obtain rfl:v0=.string s:=by have h:[v0]=[.string s]:=e0;simpa using h
     obtain rfl:v1=.int .i64 g:=by have h:[v1]=[.int .i64 g]:=e1;simpa using h
     subst q0 q1;have hDe:D j=.agg ([_,_,y2].map (·.1)):=(Prod.mk.inj hx).1;have ht:s.size<=1000000000000000:=by
      have:=hzD s.data.toList.length (by rw[hDe];simp[DataW.weights,DataW.weightsEach,Tryz.underlying59]);have h2:s.size=s.data.toList.length:=(by simp);have:=F6;omega
     obtain⟨t,hr,hbt⟩:=ih y2.1 (by
      rw[hDe] at hsz;simp at hsz ⊢;omega) n' _ y2.2 h2 (fun x hx2=>hzD x (by
       rw[hDe];simp[DataW.weights,DataW.weightsEach,Tryz.underlying59];exact .inr hx2))
     have a0:=hat 0 (by decide);have a1:=hat 1 (by decide);rw[Hs] at a0 a1;refine⟨(s,g,t),hbt,a0,a1,ht,_,hr,fun i hi6=>?_⟩;have ai:=hat (2+i) (by omega);rw[Hs,<-Nat.add_assoc] at ai;rw[ai]
     match i,hi6 with
     | 0,_=>rfl
     | 1,_=>rfl
     | 2,_=>rfl
     | 3,_=>rfl
     | 4,_=>rfl
     | 5,_=>rfl
  obtain⟨b,o,hrow,had⟩:=Te (W:=W) (ad:=ad) (n0:=0) hl hcap2 (fun h0=>by
   obtain⟨f,-,hf,_⟩:=hel 0 h0;rw[Nat.zero_mul] at hf;exact⟨by rw[hf];rfl,rfl⟩)
  obtain⟨l,hll,hlp⟩:=Is hel;subst hll;refine⟨l,some ad,m,rfl,⟨b,o,hrow,fun i hi2=>?_⟩,fun p hp=>by
   obtain⟨i,hi2,rfl⟩:=List.getElem_of_mem hp;exact (hlp i hi2).1⟩
  have ha:=had (by omega);subst ha;obtain⟨-,f0,f1,f2,cs,hr,hat⟩:=hlp i hi2;rw[I2] at f0 f1;refine⟨f0,f1,f2,cs,fun j u hj=>?_,hr⟩;have hj6:=(List.getElem?_eq_some_iff.1 hj).1;rw[hr.six] at hj6;have:=hat j hj6;rw[I2] at this;rw[show o+i*8+2+j=o+(i*8+2+j) from by omega,this,hj]
theorem S9 {H:Type} {enc:TypeId×Value->H} {W:World} {base:Nat} {held:Bool} {fuel:Nat} {v:Value} {d:DataW H} {p:List MemPlace}
  (h:DataW.trod enc Tryz.prog W base (fun _=>true) held fuel 24 [v]=some (d,p)) (hz:∀ x∈d.weights Tryz.prog 24,x<=reachBytes) (ih:∀ d',SizeOf.sizeOf d'<SizeOf.sizeOf d->Tw enc W base held d') :
  ∃ (l:Bm) (A:Option Addr) (c:Nat),v=.slice A l.length c/\ListV (fun _=>True) W l A c/\l.length<=3518437208780/\∀ v∈l,v.1.size<=reachBytes/\∀ p∈v.2,I4 p:=by
 rcases open_slice Tryz.underlying24 h with ⟨e5,q5⟩ | ⟨ad,len,cap,m,nf,D,Pl,e5,hb,hl,hm,hmm,q5,hi⟩
 ·obtain rfl:v=.slice none 0 0:=by simpa using e5
  exact⟨[],none,0,rfl,⟨0,0,⟨Nat.le_refl _,by decide,fun _=>rfl,fun h=>absurd h (by simp)⟩,fun i h=>absurd h (by simp)⟩,by simp,fun p hp=>by cases hp⟩
 ·obtain rfl:v=.slice (some ad) len cap:=by simpa using e5
  have hmc:m=cap:=by rw[hmm];simp
  subst hmc;obtain⟨rfl,-⟩:d=_/\p=_:=by simpa only[Prod.mk.injEq] using q5
  have hcap:m*40<=reachBytes:=by
   have:=hz ((len+(m - len))*40) (by simp[DataW.weights,Tryz.underlying24,Jbz])
   rwa [show len+(m - len)=m by omega] at this
  have hcap2:m<=1000000000000000:=by have:=F6;omega
  have hel:∀ j,j<len->∃ f:ByteArray×List Ty,(f.1.size<=reachBytes/\∀ p∈f.2,I4 p)/\W.cell? (ad.add (j*2))=some (.string f.1)/\f.1.size<=1000000000000000/\∃ B d',W.cell? (ad.add (j*2+1))=some (.slice B f.2.length d')/\ListT (fun _=>True) W f.2 B d':=fun j hj=>by
   obtain⟨cs',hcs,htr⟩:=hi j (by omega);rw[Jb6] at hcs;obtain⟨_,hlen',hat⟩:=World.cells?_some hcs;have hmem:D j∈(List.range len).map D:=List.mem_map.2 ⟨j,List.mem_range.2 hj,rfl⟩;have hzD:∀ x∈(D j).weights Tryz.prog 62,x<=reachBytes:=fun x hx=>hz x (by
    simp only[DataW.weights,Tryz.underlying24];exact List.mem_cons_of_mem _ (List.mem_append_left _ (H5 hmem hx)))
   have hsz:=List.sizeOf_lt_of_mem hmem;obtain⟨xs,n',hfu,hx,_,hxl,hf⟩:=DataW.trod_struct Tryz.underlying62 htr
   match cs',hlen' with
   | [v0,v1],_=>
    match xs,hxl with
    | [y0,y1],_=>
     have h0:DataW.trod enc Tryz.prog W base (fun _=>true) held n' 9 (([v0,v1].drop 0).take (Tryz.prog.cellsOf 9))=some y0:=hf 0 _ rfl;have h1:DataW.trod enc Tryz.prog W base (fun _=>true) held n' 22 (([v0,v1].drop 1).take (Tryz.prog.cellsOf 22))=some y1:=hf 1 _ rfl;rw[Xy] at h0;rw[Je5] at h1;obtain⟨s,e0,q0,_⟩:=DataW.trod_string Tryz.underlying9 h0;obtain rfl:v0=.string s:=by have h:[v0]=[.string s]:=e0;simpa using h
     subst q0;have hDe:D j=.agg ([_,y1].map (·.1)):=(Prod.mk.inj hx).1;have ht0:s.size<=reachBytes:=by
      have:=hzD s.data.toList.length (by rw[hDe];simp[DataW.weights,DataW.weightsEach,Tryz.underlying62]);have h2:s.size=s.data.toList.length:=(by simp);omega
     have ht:s.size<=1000000000000000:=Nat.le_trans ht0 F6;have h1':DataW.trod enc Tryz.prog W base (fun _=>true) held n' 22 [v1]=some (y1.1,y1.2):=h1;obtain⟨l,B,d',rfl,hL,hbl⟩:=K1 h1' (fun x hx2=>hzD x (by
       rw[hDe];simp[DataW.weights,DataW.weightsEach,Tryz.underlying62];exact .inr hx2)) (fun d' hd'=>ih d' (by
      rw[hDe] at hsz;simp at hsz ⊢;omega))
     have a0:=hat 0 (by decide);have a1:=hat 1 (by decide);rw[Hs] at a0 a1;exact⟨(s,l),⟨ht0,hbl⟩,a0,ht,B,d',a1,hL⟩
  obtain⟨b,o,hrow,had⟩:=Te (W:=W) (ad:=ad) (n0:=0) hl hcap2 (fun h0=>by
   obtain⟨f,-,hf,_⟩:=hel 0 h0;rw[Nat.zero_mul] at hf;exact⟨by rw[hf];rfl,rfl⟩)
  obtain⟨l,hll,hlp⟩:=Is hel;subst hll;refine⟨l,some ad,m,rfl,⟨b,o,hrow,fun i hi2=>?_⟩,by have h1:reachBytes=140737488351232:=rfl;omega,fun p hp=>by
   obtain⟨i,hi2,rfl⟩:=List.getElem_of_mem hp;exact (hlp i hi2).1⟩
  have ha:=had (by omega);subst ha;obtain⟨-,f0,f2,B,d',f1,hr⟩:=hlp i hi2;rw[I2] at f0 f1;exact⟨B,d',f0,f1,f2,hr⟩
theorem Wu {H:Type} {enc:TypeId×Value->H} {W:World} {base:Nat} {held:Bool}:∀ (s:Nat) (d:DataW H),SizeOf.sizeOf d=s->Tw enc W base held d:=by
 intro s
 induction s using Nat.strongRecOn with
 | _ s ih=>
  intro d hs fuel cs p h hz;obtain⟨xs,n,rfl,hx,hlen,hxl,hf⟩:=DataW.trod_struct Tryz.underlying26 h;simp only[Prod.mk.injEq] at hx;obtain⟨rfl,rfl⟩:=hx;rw[O3] at hlen
  match cs,hlen with
  | [v0,v1,v2,v3,v4,v5],_=>
   match xs,hxl with
   | [y0,y1,y2,y3,y4,y5],_=>
    have h0:DataW.trod enc Tryz.prog W base (fun _=>true) held n 3 (([v0,v1,v2,v3,v4,v5].drop 0).take (Tryz.prog.cellsOf 3))=some y0:=hf 0 _ rfl;have h1:DataW.trod enc Tryz.prog W base (fun _=>true) held n 9 (([v0,v1,v2,v3,v4,v5].drop 1).take (Tryz.prog.cellsOf 9))=some y1:=hf 1 _ rfl;have h2:DataW.trod enc Tryz.prog W base (fun _=>true) held n 2 (([v0,v1,v2,v3,v4,v5].drop 2).take (Tryz.prog.cellsOf 2))=some y2:=hf 2 _ rfl;have h3:DataW.trod enc Tryz.prog W base (fun _=>true) held n 22 (([v0,v1,v2,v3,v4,v5].drop 3).take (Tryz.prog.cellsOf 22))=some y3:=hf 3 _ rfl;have h4:DataW.trod enc Tryz.prog W base (fun _=>true) held n 23 (([v0,v1,v2,v3,v4,v5].drop 4).take (Tryz.prog.cellsOf 23))=some y4:=hf 4 _ rfl;have h5:DataW.trod enc Tryz.prog W base (fun _=>true) held n 24 (([v0,v1,v2,v3,v4,v5].drop 5).take (Tryz.prog.cellsOf 24))=some y5:=hf 5 _ rfl;rw[Jeb] at h0;rw[Xy] at h1;rw[Jb0] at h2;rw[Je5] at h3;rw[Je6] at h4;rw[Je7] at h5;obtain⟨k,e0,q0,_⟩:=DataW.trod_int Tryz.underlying3 h0;obtain⟨t,e1,q1,_⟩:=DataW.trod_string Tryz.underlying9 h1;obtain⟨nn,e2,q2,_⟩:=DataW.trod_int Tryz.underlying2 h2;obtain rfl:v0=.int .i64 k:=by have h:[v0]=[.int .i64 k]:=e0;simpa using h
    obtain rfl:v1=.string t:=by have h:[v1]=[.string t]:=e1;simpa using h
    obtain rfl:v2=.int .i64 nn:=by have h:[v2]=[.int .i64 nn]:=e2;simpa using h
    subst q0 q1 q2;have ht0:t.size<=reachBytes:=by
     have:=hz t.data.toList.length (by simp[DataW.weights,DataW.weightsEach,Tryz.underlying26]);have h2:t.size=t.data.toList.length:=(by simp);omega
    have ht:t.size<=1000000000000000:=Nat.le_trans ht0 F6;obtain⟨l3,A3,c3,rfl,hL3,hB3⟩:=K1 (show _=some (y3.1,y3.2) from h3) (fun x hx=>hz x (by simp[DataW.weights,DataW.weightsEach,Tryz.underlying26];exact .inr (.inl hx))) (fun d' hd'=>ih (SizeOf.sizeOf d') (by rw[<-hs];simp;omega) d' rfl);obtain⟨l4,A4,c4,rfl,hL4,hB4⟩:=Pp (show _=some (y4.1,y4.2) from h4) (fun x hx=>hz x (by simp[DataW.weights,DataW.weightsEach,Tryz.underlying26];exact .inr (.inr (.inl hx)))) (fun d' hd'=>ih (SizeOf.sizeOf d') (by rw[<-hs];simp;omega) d' rfl);obtain⟨l5,A5,c5,rfl,hL5,hN5,hB5⟩:=S9 (show _=some (y5.1,y5.2) from h5) (fun x hx=>hz x (by simp[DataW.weights,DataW.weightsEach,Tryz.underlying26];exact .inr (.inr (.inr hx)))) (fun d' hd'=>ih (SizeOf.sizeOf d') (by rw[<-hs];simp;omega) d' rfl);exact⟨.mk k t nn l3 l4 l5,RepT.of ht hL3 hL4 hL5,Jeg ht0 hN5 hB5 hB3 hB4⟩
theorem openq_typeV {H:Type} {enc:TypeId×Value->H} {W:World} {base b0:Nat} {held:Bool} {r:Reach} {v:Value} {d:DataW H} {p:List MemPlace} (hv:Value.okWide Tryz.prog W r b0 26 v) (h:DataW.Trod enc Tryz.prog W base (fun _=>true) held 26 v d p) (hz:∀ x∈d.weights Tryz.prog 26,x<=reachBytes) :
  ∃ (t:Ty) (x0:Int) (x1:ByteArray) (x2:Int) (x3:Option Addr) (x4 x5:Nat) (x6:Option Addr) (x7 x8:Nat) (x9:Option Addr) (xa xb:Nat),v=.agg #[.int .i64 x0,.string x1,.int .i64 x2,.slice x3 x4 x5,.slice x6 x7 x8,.slice x9 xa xb]/\RepT (fun _=>True) W t [.int .i64 x0,.string x1,.int .i64 x2,.slice x3 x4 x5,.slice x6 x7 x8,.slice x9 xa xb]/\I4 t:=by
 obtain⟨cs,rfl,hsz⟩:=okWide_struct Tryz.underlying26 hv;obtain⟨l⟩:=cs;obtain⟨fuel,hf⟩:=h;obtain⟨t,ht,hbt⟩:=Wu _ d rfl fuel _ p hf hz;obtain⟨k,s,n,ps,fs,vs⟩:=t;obtain⟨A,c,A',c',A'',c'',e,_⟩:=ht.inv;have e2:l=Ar k s n A ps.length c A' fs.length c' A'' vs.length c'':=by simpa [Value.cells] using e
 subst e2;exact⟨_,_,_,_,_,_,_,_,_,_,_,_,_,rfl,by simpa [Value.cells,Ar] using ht,hbt⟩
end Go.Proofs.YtlpfpehegddcfaaGreatDoor
