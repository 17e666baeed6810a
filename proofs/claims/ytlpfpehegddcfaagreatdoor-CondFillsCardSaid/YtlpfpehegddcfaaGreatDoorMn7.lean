import Derived.Test.YtlpfpehegddcfaaGreatDoorMn6
import Derived.Deep.Slices
import Derived.OpenShut
import Derived.ProofKit
import Derived.SizedLaws
namespace Go.Proofs.YtlpfpehegddcfaaGreatDoor
set_option maxRecDepth 100000
set_option maxHeartbeats 64000000
open Go.RowKit
open Go.RowKit Go.ChangeShapes Go.WideShapes Go.Deep
theorem weights_all {H:Type} {P:Program} {e:TypeId} {x:Nat}:∀ {l:List (DataW H)} {d:DataW H},d∈l→x∈d.weights P e→x∈DataW.weightsAll P e l:=by
 intro l
 induction l with
 | nil=>intro d h;cases h
 | cons a l ih=>
  intro d h hx
  unfold DataW.weightsAll
  rcases List.mem_cons.1 h with rfl | h
  ·exact List.mem_append_left _ hx
  ·exact List.mem_append_right _ (ih h hx)
theorem build_list {α:Type} {C:Nat→α→Prop} {n:Nat} (h:∀ j,j<n→∃ x,C j x):∃ l:List α,l.length=n∧∀ i (hi:i<l.length),C i l[i]:=
 ⟨List.ofFn fun (i:Fin n)=>(h i i.2).choose,by simp,fun i hi=>by
  simp only[List.getElem_ofFn]
  exact (h i (by simpa using hi)).choose_spec⟩
theorem add_addT (a:Addr) (x y:Nat):(a.add x).add y=a.add (x+y):=by
 unfold Addr.add
 by_cases hx:x=0 <;> by_cases hy:y=0 <;> simp[hx,hy,Nat.add_assoc] <;> omega
theorem add_none (b o n:Nat):(⟨b,o,none⟩:Addr).add n=⟨b,o+n,none⟩:=by
 unfold Addr.add
 split
 ·rename_i h;subst h;rfl
 ·rfl
set_option maxRecDepth 100000
theorem cells26:Tryz.prog.cellsOf 26=6:=by kernel_rfl
theorem cells58:Tryz.prog.cellsOf 59=8:=by kernel_rfl
theorem cells60:Tryz.prog.cellsOf 62=2:=by kernel_rfl
theorem bytes26:Tryz.prog.bytesOf 26=104:=by kernel_rfl
theorem bytes58:Tryz.prog.bytesOf 59=128:=by kernel_rfl
theorem bytes60:Tryz.prog.bytesOf 62=40:=by kernel_rfl
theorem c1int:Tryz.prog.cellsOf 3=1:=by kernel_rfl
theorem c1int64:Tryz.prog.cellsOf 2=1:=by kernel_rfl
theorem c1str:Tryz.prog.cellsOf 9=1:=by kernel_rfl
theorem c1sl:Tryz.prog.cellsOf 22=1:=by kernel_rfl
theorem c1slF:Tryz.prog.cellsOf 23=1:=by kernel_rfl
theorem c1slV:Tryz.prog.cellsOf 24=1:=by kernel_rfl
theorem reach_leT:reachBytes≤1000000000000000:=by decide
def OpenP {H:Type} (enc:TypeId×Value→H) (W:World) (base:Nat) (held:Bool) (d:DataW H):Prop:=∀ (fuel:Nat) (cs:List Value) (p:List MemPlace),
 DataW.trod enc Tryz.prog W base (fun _=>true) held fuel 26 cs=some (d,p)→(∀ x∈d.weights Tryz.prog 26,x≤reachBytes)→∃ t,RepT (fun _=>True) W t cs
theorem row_of {ad:Addr} {W:World} {len cap n0:Nat} (hl:len≤cap) (hc:cap≤1000000000000000) (h0:0<len→(W.cell? (ad.add n0)).isSome=true∧n0=0):∃ b o,RowAt (fun _=>True) (some ad) len cap b o∧(0<len→ad=⟨b,o,none⟩):=by
 rcases Nat.eq_zero_or_pos len with h | h
 ·subst h
  exact⟨0,0,⟨hl,Nat.le_trans hl hc,(fun h=>by cases h),fun h=>absurd h (by omega)⟩,fun h=>absurd h (by omega)⟩
 ·obtain⟨h1,rfl⟩:=h0 h
  obtain⟨v,hv⟩:=Option.isSome_iff_exists.1 h1
  have hs:=World.cell?_spot hv
  obtain⟨b,o,sp⟩:=ad
  have:sp=none:=by simpa [Addr.add] using hs
  subst this
  exact⟨b,o,⟨hl,Nat.le_trans hl hc,(fun h=>by cases h),fun _=>⟨rfl,trivial⟩⟩,fun _=>rfl⟩
theorem open_types {H:Type} {enc:TypeId×Value→H} {W:World} {base:Nat} {held:Bool} {fuel:Nat} {v:Value} {d:DataW H} {p:List MemPlace}
  (h:DataW.trod enc Tryz.prog W base (fun _=>true) held fuel 22 [v]=some (d,p)) (hz:∀ x∈d.weights Tryz.prog 22,x≤reachBytes) (ih:∀ d',SizeOf.sizeOf d'<SizeOf.sizeOf d→OpenP enc W base held d') :
  ∃ (l:List Ty) (A:Option Addr) (c:Nat),v=.slice A l.length c∧ListT (fun _=>True) W l A c:=by
 rcases open_slice Tryz.underlying22 h with ⟨e5,q5⟩ | ⟨ad,len,cap,m,nf,D,Pl,e5,hb,hl,hm,hmm,q5,hi⟩
 ·obtain rfl:v=.slice none 0 0:=by simpa using e5
  exact⟨[],none,0,rfl,⟨0,0,⟨Nat.le_refl _,by decide,fun _=>rfl,fun h=>absurd h (by simp)⟩,fun i h=>absurd h (by simp)⟩⟩
 ·obtain rfl:v=.slice (some ad) len cap:=by simpa using e5
  have hmc:m=cap:=by rw[hmm];simp
  subst hmc
  obtain⟨rfl,-⟩:d=_∧p=_:=by simpa only[Prod.mk.injEq] using q5
  have hcap:m*104≤reachBytes:=by
   have:=hz ((len+(m - len))*104) (by simp[DataW.weights,Tryz.underlying22,bytes26])
   rwa [show len+(m - len)=m by omega] at this
  have hcap2:m≤1000000000000000:=by have:=reach_leT;omega
  have hel:∀ j,j<len→∃ t,∃ cs,RepT (fun _=>True) W t cs∧∀ i,i<6→W.cell? ((ad.add (j*6)).add i)=cs[i]?:=fun j hj=>by
   obtain⟨cs',hcs,htr⟩:=hi j (by omega)
   rw[cells26] at hcs
   obtain⟨_,hlen',hat⟩:=World.cells?_some hcs
   have hmem:D j∈(List.range len).map D:=List.mem_map.2 ⟨j,List.mem_range.2 hj,rfl⟩
   obtain⟨t,ht⟩:=ih (D j) (by
    have h1:=List.sizeOf_lt_of_mem hmem
    simp
    omega) nf cs' (Pl j) htr (fun x hx=>hz x (by
    simp only[DataW.weights,Tryz.underlying22]
    exact List.mem_cons_of_mem _ (List.mem_append_left _ (weights_all hmem hx))))
   exact⟨t,cs',ht,hat⟩
  obtain⟨b,o,hrow,had⟩:=row_of (W:=W) (ad:=ad) (n0:=0) hl hcap2 (fun h0=>by
   obtain⟨t,cs,hr,hat⟩:=hel 0 h0
   have h6:=hr.six
   have:=hat 0 (by omega)
   rw[add_addT,Nat.zero_mul,List.getElem?_eq_getElem (by omega)] at this
   exact⟨by rw[this];rfl,rfl⟩)
  obtain⟨l,hll,hlp⟩:=build_list (C:=fun j t=>∃ cs,RepT (fun _=>True) W t cs∧∀ i,i<6→W.cell? ((ad.add (j*6)).add i)=cs[i]?) hel
  subst hll
  refine⟨l,some ad,m,rfl,⟨b,o,hrow,fun i hi2=>?_⟩⟩
  have ha:=had (by omega)
  subst ha
  obtain⟨cs,hr,hat⟩:=hlp i hi2
  refine⟨cs,fun j u hj=>?_,hr⟩
  have hj6:=(List.getElem?_eq_some_iff.1 hj).1
  rw[hr.six] at hj6
  have:=hat j hj6
  rw[add_addT,add_none,←Nat.add_assoc] at this
  rw[this,hj]
theorem open_fields {H:Type} {enc:TypeId×Value→H} {W:World} {base:Nat} {held:Bool} {fuel:Nat} {v:Value} {d:DataW H} {p:List MemPlace}
  (h:DataW.trod enc Tryz.prog W base (fun _=>true) held fuel 23 [v]=some (d,p)) (hz:∀ x∈d.weights Tryz.prog 23,x≤reachBytes) (ih:∀ d',SizeOf.sizeOf d'<SizeOf.sizeOf d→OpenP enc W base held d') :
  ∃ (l:FsT) (A:Option Addr) (c:Nat),v=.slice A l.length c∧ListF (fun _=>True) W l A c:=by
 rcases open_slice Tryz.underlying23 h with ⟨e5,q5⟩ | ⟨ad,len,cap,m,nf,D,Pl,e5,hb,hl,hm,hmm,q5,hi⟩
 ·obtain rfl:v=.slice none 0 0:=by simpa using e5
  exact⟨[],none,0,rfl,⟨0,0,⟨Nat.le_refl _,by decide,fun _=>rfl,fun h=>absurd h (by simp)⟩,fun i h=>absurd h (by simp)⟩⟩
 ·obtain rfl:v=.slice (some ad) len cap:=by simpa using e5
  have hmc:m=cap:=by rw[hmm];simp
  subst hmc
  obtain⟨rfl,-⟩:d=_∧p=_:=by simpa only[Prod.mk.injEq] using q5
  have hcap:m*128≤reachBytes:=by
   have:=hz ((len+(m - len))*128) (by simp[DataW.weights,Tryz.underlying23,bytes58])
   rwa [show len+(m - len)=m by omega] at this
  have hcap2:m≤1000000000000000:=by have:=reach_leT;omega
  have hel:∀ j,j<len→∃ f:ByteArray×Int×Ty,W.cell? (ad.add (j*8))=some (.string f.1)∧W.cell? (ad.add (j*8+1))=some (.int .i64 f.2.1)∧f.1.size≤1000000000000000∧∃ cs,RepT (fun _=>True) W f.2.2 cs∧∀ i,i<6→W.cell? (ad.add (j*8+2+i))=cs[i]?:=fun j hj=>by
   obtain⟨cs',hcs,htr⟩:=hi j (by omega)
   rw[cells58] at hcs
   obtain⟨_,hlen',hat⟩:=World.cells?_some hcs
   have hmem:D j∈(List.range len).map D:=List.mem_map.2 ⟨j,List.mem_range.2 hj,rfl⟩
   have hzD:∀ x∈(D j).weights Tryz.prog 59,x≤reachBytes:=fun x hx=>hz x (by
    simp only[DataW.weights,Tryz.underlying23]
    exact List.mem_cons_of_mem _ (List.mem_append_left _ (weights_all hmem hx)))
   have hsz:=List.sizeOf_lt_of_mem hmem
   obtain⟨xs,n',hfu,hx,_,hxl,hf⟩:=DataW.trod_struct Tryz.underlying59 htr
   match cs',hlen' with
   | [v0,v1,v2,v3,v4,v5,v6,v7],_=>
    match xs,hxl with
    | [y0,y1,y2],_=>
     have h0:DataW.trod enc Tryz.prog W base (fun _=>true) held n' 9 (([v0,v1,v2,v3,v4,v5,v6,v7].drop 0).take (Tryz.prog.cellsOf 9))=some y0:=hf 0 _ rfl
     have h1:DataW.trod enc Tryz.prog W base (fun _=>true) held n' 3 (([v0,v1,v2,v3,v4,v5,v6,v7].drop 1).take (Tryz.prog.cellsOf 3))=some y1:=hf 1 _ rfl
     have h2:DataW.trod enc Tryz.prog W base (fun _=>true) held n' 26 (([v0,v1,v2,v3,v4,v5,v6,v7].drop 2).take (Tryz.prog.cellsOf 26))=some y2:=hf 2 _ rfl
     rw[c1str] at h0
     rw[c1int] at h1
     rw[cells26] at h2
     obtain⟨s,e0,q0,_⟩:=DataW.trod_string Tryz.underlying9 h0
     obtain⟨g,e1,q1,_⟩:=DataW.trod_int Tryz.underlying3 h1
     obtain rfl:v0=.string s:=by have h:[v0]=[.string s]:=e0;simpa using h
     obtain rfl:v1=.int .i64 g:=by have h:[v1]=[.int .i64 g]:=e1;simpa using h
     subst q0 q1
     have hDe:D j=.agg ([_,_,y2].map (·.1)):=(Prod.mk.inj hx).1
     have ht:s.size≤1000000000000000:=by
      have:=hzD s.data.toList.length (by rw[hDe];simp[DataW.weights,DataW.weightsEach,Tryz.underlying59])
      have h2:s.size=s.data.toList.length:=by simp
      have:=reach_leT
      omega
     obtain⟨t,hr⟩:=ih y2.1 (by
      rw[hDe] at hsz
      simp at hsz ⊢
      omega) n' _ y2.2 h2 (fun x hx2=>hzD x (by
       rw[hDe]
       simp[DataW.weights,DataW.weightsEach,Tryz.underlying59]
       exact .inr hx2))
     have a0:=hat 0 (by decide)
     have a1:=hat 1 (by decide)
     rw[add_addT] at a0 a1
     refine⟨(s,g,t),a0,a1,ht,_,hr,fun i hi6=>?_⟩
     have ai:=hat (2+i) (by omega)
     rw[add_addT,←Nat.add_assoc] at ai
     rw[ai]
     match i,hi6 with
     | 0,_=>rfl
     | 1,_=>rfl
     | 2,_=>rfl
     | 3,_=>rfl
     | 4,_=>rfl
     | 5,_=>rfl
  obtain⟨b,o,hrow,had⟩:=row_of (W:=W) (ad:=ad) (n0:=0) hl hcap2 (fun h0=>by
   obtain⟨f,hf,_⟩:=hel 0 h0
   rw[Nat.zero_mul] at hf
   exact⟨by rw[hf];rfl,rfl⟩)
  obtain⟨l,hll,hlp⟩:=build_list hel
  subst hll
  refine⟨l,some ad,m,rfl,⟨b,o,hrow,fun i hi2=>?_⟩⟩
  have ha:=had (by omega)
  subst ha
  obtain⟨f0,f1,f2,cs,hr,hat⟩:=hlp i hi2
  rw[add_none] at f0 f1
  refine⟨f0,f1,f2,cs,fun j u hj=>?_,hr⟩
  have hj6:=(List.getElem?_eq_some_iff.1 hj).1
  rw[hr.six] at hj6
  have:=hat j hj6
  rw[add_none] at this
  rw[show o+i*8+2+j=o+(i*8+2+j) from by omega,this,hj]
theorem open_vars {H:Type} {enc:TypeId×Value→H} {W:World} {base:Nat} {held:Bool} {fuel:Nat} {v:Value} {d:DataW H} {p:List MemPlace}
  (h:DataW.trod enc Tryz.prog W base (fun _=>true) held fuel 24 [v]=some (d,p)) (hz:∀ x∈d.weights Tryz.prog 24,x≤reachBytes) (ih:∀ d',SizeOf.sizeOf d'<SizeOf.sizeOf d→OpenP enc W base held d') :
  ∃ (l:VsT) (A:Option Addr) (c:Nat),v=.slice A l.length c∧ListV (fun _=>True) W l A c:=by
 rcases open_slice Tryz.underlying24 h with ⟨e5,q5⟩ | ⟨ad,len,cap,m,nf,D,Pl,e5,hb,hl,hm,hmm,q5,hi⟩
 ·obtain rfl:v=.slice none 0 0:=by simpa using e5
  exact⟨[],none,0,rfl,⟨0,0,⟨Nat.le_refl _,by decide,fun _=>rfl,fun h=>absurd h (by simp)⟩,fun i h=>absurd h (by simp)⟩⟩
 ·obtain rfl:v=.slice (some ad) len cap:=by simpa using e5
  have hmc:m=cap:=by rw[hmm];simp
  subst hmc
  obtain⟨rfl,-⟩:d=_∧p=_:=by simpa only[Prod.mk.injEq] using q5
  have hcap:m*40≤reachBytes:=by
   have:=hz ((len+(m - len))*40) (by simp[DataW.weights,Tryz.underlying24,bytes60])
   rwa [show len+(m - len)=m by omega] at this
  have hcap2:m≤1000000000000000:=by have:=reach_leT;omega
  have hel:∀ j,j<len→∃ f:ByteArray×List Ty,W.cell? (ad.add (j*2))=some (.string f.1)∧f.1.size≤1000000000000000∧∃ B d',W.cell? (ad.add (j*2+1))=some (.slice B f.2.length d')∧ListT (fun _=>True) W f.2 B d':=fun j hj=>by
   obtain⟨cs',hcs,htr⟩:=hi j (by omega)
   rw[cells60] at hcs
   obtain⟨_,hlen',hat⟩:=World.cells?_some hcs
   have hmem:D j∈(List.range len).map D:=List.mem_map.2 ⟨j,List.mem_range.2 hj,rfl⟩
   have hzD:∀ x∈(D j).weights Tryz.prog 62,x≤reachBytes:=fun x hx=>hz x (by
    simp only[DataW.weights,Tryz.underlying24]
    exact List.mem_cons_of_mem _ (List.mem_append_left _ (weights_all hmem hx)))
   have hsz:=List.sizeOf_lt_of_mem hmem
   obtain⟨xs,n',hfu,hx,_,hxl,hf⟩:=DataW.trod_struct Tryz.underlying62 htr
   match cs',hlen' with
   | [v0,v1],_=>
    match xs,hxl with
    | [y0,y1],_=>
     have h0:DataW.trod enc Tryz.prog W base (fun _=>true) held n' 9 (([v0,v1].drop 0).take (Tryz.prog.cellsOf 9))=some y0:=hf 0 _ rfl
     have h1:DataW.trod enc Tryz.prog W base (fun _=>true) held n' 22 (([v0,v1].drop 1).take (Tryz.prog.cellsOf 22))=some y1:=hf 1 _ rfl
     rw[c1str] at h0
     rw[c1sl] at h1
     obtain⟨s,e0,q0,_⟩:=DataW.trod_string Tryz.underlying9 h0
     obtain rfl:v0=.string s:=by have h:[v0]=[.string s]:=e0;simpa using h
     subst q0
     have hDe:D j=.agg ([_,y1].map (·.1)):=(Prod.mk.inj hx).1
     have ht:s.size≤1000000000000000:=by
      have:=hzD s.data.toList.length (by rw[hDe];simp[DataW.weights,DataW.weightsEach,Tryz.underlying62])
      have h2:s.size=s.data.toList.length:=by simp
      have:=reach_leT
      omega
     have h1':DataW.trod enc Tryz.prog W base (fun _=>true) held n' 22 [v1]=some (y1.1,y1.2):=h1
     obtain⟨l,B,d',rfl,hL⟩:=open_types h1' (fun x hx2=>hzD x (by
       rw[hDe]
       simp[DataW.weights,DataW.weightsEach,Tryz.underlying62]
       exact .inr hx2)) (fun d' hd'=>ih d' (by
      rw[hDe] at hsz
      simp at hsz ⊢
      omega))
     have a0:=hat 0 (by decide)
     have a1:=hat 1 (by decide)
     rw[add_addT] at a0 a1
     exact⟨(s,l),a0,ht,B,d',a1,hL⟩
  obtain⟨b,o,hrow,had⟩:=row_of (W:=W) (ad:=ad) (n0:=0) hl hcap2 (fun h0=>by
   obtain⟨f,hf,_⟩:=hel 0 h0
   rw[Nat.zero_mul] at hf
   exact⟨by rw[hf];rfl,rfl⟩)
  obtain⟨l,hll,hlp⟩:=build_list hel
  subst hll
  refine⟨l,some ad,m,rfl,⟨b,o,hrow,fun i hi2=>?_⟩⟩
  have ha:=had (by omega)
  subst ha
  obtain⟨f0,f2,B,d',f1,hr⟩:=hlp i hi2
  rw[add_none] at f0 f1
  exact⟨B,d',f0,f1,f2,hr⟩
theorem open_all {H:Type} {enc:TypeId×Value→H} {W:World} {base:Nat} {held:Bool}:∀ (s:Nat) (d:DataW H),SizeOf.sizeOf d=s→OpenP enc W base held d:=by
 intro s
 induction s using Nat.strongRecOn with
 | _ s ih=>
  intro d hs fuel cs p h hz
  obtain⟨xs,n,rfl,hx,hlen,hxl,hf⟩:=DataW.trod_struct Tryz.underlying26 h
  simp only[Prod.mk.injEq] at hx
  obtain⟨rfl,rfl⟩:=hx
  rw[cells26] at hlen
  match cs,hlen with
  | [v0,v1,v2,v3,v4,v5],_=>
   match xs,hxl with
   | [y0,y1,y2,y3,y4,y5],_=>
    have h0:DataW.trod enc Tryz.prog W base (fun _=>true) held n 3 (([v0,v1,v2,v3,v4,v5].drop 0).take (Tryz.prog.cellsOf 3))=some y0:=hf 0 _ rfl
    have h1:DataW.trod enc Tryz.prog W base (fun _=>true) held n 9 (([v0,v1,v2,v3,v4,v5].drop 1).take (Tryz.prog.cellsOf 9))=some y1:=hf 1 _ rfl
    have h2:DataW.trod enc Tryz.prog W base (fun _=>true) held n 2 (([v0,v1,v2,v3,v4,v5].drop 2).take (Tryz.prog.cellsOf 2))=some y2:=hf 2 _ rfl
    have h3:DataW.trod enc Tryz.prog W base (fun _=>true) held n 22 (([v0,v1,v2,v3,v4,v5].drop 3).take (Tryz.prog.cellsOf 22))=some y3:=hf 3 _ rfl
    have h4:DataW.trod enc Tryz.prog W base (fun _=>true) held n 23 (([v0,v1,v2,v3,v4,v5].drop 4).take (Tryz.prog.cellsOf 23))=some y4:=hf 4 _ rfl
    have h5:DataW.trod enc Tryz.prog W base (fun _=>true) held n 24 (([v0,v1,v2,v3,v4,v5].drop 5).take (Tryz.prog.cellsOf 24))=some y5:=hf 5 _ rfl
    rw[c1int] at h0
    rw[c1str] at h1
    rw[c1int64] at h2
    rw[c1sl] at h3
    rw[c1slF] at h4
    rw[c1slV] at h5
    obtain⟨k,e0,q0,_⟩:=DataW.trod_int Tryz.underlying3 h0
    obtain⟨t,e1,q1,_⟩:=DataW.trod_string Tryz.underlying9 h1
    obtain⟨nn,e2,q2,_⟩:=DataW.trod_int Tryz.underlying2 h2
    obtain rfl:v0=.int .i64 k:=by have h:[v0]=[.int .i64 k]:=e0;simpa using h
    obtain rfl:v1=.string t:=by have h:[v1]=[.string t]:=e1;simpa using h
    obtain rfl:v2=.int .i64 nn:=by have h:[v2]=[.int .i64 nn]:=e2;simpa using h
    subst q0 q1 q2
    have ht:t.size≤1000000000000000:=by
     have:=hz t.data.toList.length (by simp[DataW.weights,DataW.weightsEach,Tryz.underlying26])
     have h2:t.size=t.data.toList.length:=by simp
     have:=reach_leT
     omega
    obtain⟨l3,A3,c3,rfl,hL3⟩:=open_types (show _=some (y3.1,y3.2) from h3) (fun x hx=>hz x (by simp[DataW.weights,DataW.weightsEach,Tryz.underlying26];exact .inr (.inl hx))) (fun d' hd'=>ih (SizeOf.sizeOf d') (by rw[←hs];simp;omega) d' rfl)
    obtain⟨l4,A4,c4,rfl,hL4⟩:=open_fields (show _=some (y4.1,y4.2) from h4) (fun x hx=>hz x (by simp[DataW.weights,DataW.weightsEach,Tryz.underlying26];exact .inr (.inr (.inl hx)))) (fun d' hd'=>ih (SizeOf.sizeOf d') (by rw[←hs];simp;omega) d' rfl)
    obtain⟨l5,A5,c5,rfl,hL5⟩:=open_vars (show _=some (y5.1,y5.2) from h5) (fun x hx=>hz x (by simp[DataW.weights,DataW.weightsEach,Tryz.underlying26];exact .inr (.inr (.inr hx)))) (fun d' hd'=>ih (SizeOf.sizeOf d') (by rw[←hs];simp;omega) d' rfl)
    exact⟨.mk k t nn l3 l4 l5,RepT.of ht hL3 hL4 hL5⟩
theorem open_typeV {H:Type} {enc:TypeId×Value→H} {W:World} {base b0:Nat} {held:Bool} {r:Reach} {v:Value} {d:DataW H} {p:List MemPlace} (hv:Value.okWide Tryz.prog W r b0 26 v) (h:DataW.Trod enc Tryz.prog W base (fun _=>true) held 26 v d p) (hz:∀ x∈d.weights Tryz.prog 26,x≤reachBytes) :
  ∃ (t:Ty) (x0:Int) (x1:ByteArray) (x2:Int) (x3:Option Addr) (x4 x5:Nat) (x6:Option Addr) (x7 x8:Nat) (x9:Option Addr) (xa xb:Nat),v=.agg #[.int .i64 x0,.string x1,.int .i64 x2,.slice x3 x4 x5,.slice x6 x7 x8,.slice x9 xa xb]∧RepT (fun _=>True) W t [.int .i64 x0,.string x1,.int .i64 x2,.slice x3 x4 x5,.slice x6 x7 x8,.slice x9 xa xb]:=by
 obtain⟨cs,rfl,hsz⟩:=okWide_struct Tryz.underlying26 hv
 obtain⟨l⟩:=cs
 obtain⟨fuel,hf⟩:=h
 obtain⟨t,ht⟩:=open_all _ d rfl fuel _ p hf hz
 obtain⟨k,s,n,ps,fs,vs⟩:=t
 obtain⟨A,c,A',c',A'',c'',e,_⟩:=ht.inv
 have e2:l=cells6T k s n A ps.length c A' fs.length c' A'' vs.length c'':=by simpa [Value.cells] using e
 subst e2
 exact⟨_,_,_,_,_,_,_,_,_,_,_,_,_,rfl,by simpa [Value.cells,cells6T] using ht⟩
theorem flat_list (l:List Ty) (hp:∀ p∈l,FlatP p.ps):FlatP l:=by
 intro K w0 w A c v os g h hL hb hg hK hO hbd
 have hll:=hL.short
 have HL:=Hd hL
 have HP:=Hd hp
 have HG:=Hd hg
 have HBD:=Hd hbd
 have HS0:Hid (OutT K w0 w v os∧KB w g h∧Below w0.heap.size w0 w):=Hd ⟨hO,hK,hb⟩
 obtain⟨i0,hi0,hz0,hz1,hz2⟩:=partsT infoTy
 obtain⟨vs0,hvs0,-⟩:=hO
 obtain⟨A0,c0,rfl,-⟩:=sliceT hvs0
 obtain⟨n0,hn0⟩:∃ n0,n0=os.length:=⟨_,rfl⟩
 rw[←hn0] at HS0 hvs0 ⊢
 have HN0:=Hd hn0
 clear hL hp hg hbd hb hK hvs0 hn0
 go_enter Tryz.func98,Tryz.ntmps98
 go_wp2_with fail
 go_loopw [0,10] (fun ov v wr=>∃ (i:Nat) (acc:List Ty),i≤l.length∧v=.int .i64 i∧acc=os++flatU (l.take i)∧OutT K w0 wr ov acc∧KB wr g (seeL h (flatU (l.take i)))∧Below w0.heap.size w0 wr) (fun _ v _=>l.length - (intOf v).toNat)
 case atStart=>exact⟨0,os,by omega,rfl,by simp[flatU],HS0.out.1,by simpa [flatU,seeL] using HS0.out.2.1,HS0.out.2.2⟩
 case round=>
  obtain⟨i,acc,hi,rfl,hacc,ho,hk,hb⟩:=hrel
  have HAcc:=Hd hacc
  clear hacc
  have HR:=Hd (And.intro ho (And.intro hk hb))
  obtain⟨vs,hvs,hrs⟩:=ho
  obtain⟨A1,c1,rfl,-⟩:=sliceT hvs
  by_cases hin:i<l.length
  ·have t1:decide ((i:Int)<(l.length:Int))=true:=by simp;omega
   have wr2:wrap64 ((i:Int)+1)=((i+1:Nat):Int):=wrap_one (by omega)
   obtain⟨b,o,hA,_,hat⟩:=HL.out.at (by omega)
   have hti:=hat i hin
   have hpi:=HP.out _ (List.getElem_mem hin)
   have htk:=flatU_take hin
   have hsp:=flatU_split l (i+1)
   subst hA
   generalize l[i]=t at hti hpi htk
   obtain⟨k,s,n,ps,fs,ws⟩:=t
   obtain⟨cs,hcs,hrep⟩:=hti
   obtain⟨Ap,cp,Af,cf,Av,cv,rfl,-,hLp,-,-⟩:=hrep.inv
   have HREP:=Hd hrep
   have x0:wr.cell? ⟨b,o+i*6,none⟩=some (.int .i64 k):=cell_stays hb (hcs 0 _ rfl)
   have x3:=cell_stays hb (hcs 3 _ rfl)
   have HCS:=Hd hcs
   have HIn:=Hd hin
   have HTk:=Hd htk
   have HOw:=Hd (And.intro hvs hrs)
   have HLen:Hid (acc.length+(parts1 (.mk k s n ps fs ws)).length≤1099511627776):=Hd (by
    have h1:=HBD.out
    rw[hsp,htk] at h1
    rw[HAcc.out]
    simp only[List.length_append] at h1 ⊢
    omega)
   have hbl:b<w0.heap.size:=World.block_lt_of_cell? _ _ (hcs 0 _ rfl)
   have HBl:=Hd hbl
   by_cases h15:k=15
   ·subst h15
    have KF:=Hd (hpi K w0 wr Ap cp _ _ g _ hLp hb HG.out hk HR.out.1 (by have:=HLen.out;rw[parts1_mk,if_pos rfl] at this;exact this))
    simp only[Ty.ps] at KF
    clear hpi htk hsp hcs hrep hLp hvs hrs hk hb hi hbl
    go_wp2_with fail
    refine KF.out.mono ?_
    rintro e w2 ⟨v2,rfl,ho2,hk2,hb2⟩
    have HR2:=Hd (And.intro ho2 (And.intro hk2 hb2))
    clear ho2 hk2 hb2 KF
    go_wp2_with fail
    refine⟨⟨i+1,_,HIn.out,by first | rfl | rw[wr2],?p1,HR2.out.1,?p2,HR2.out.2.2⟩,?p3⟩
    case p1=>rw[HTk.out,HAcc.out,parts1_mk,if_pos rfl,List.append_assoc]
    case p2=>rw[HTk.out,seeL_app,parts1_mk,if_pos rfl];exact HR2.out.2.1
    case p3=>first | exact measI HIn.out | exact measT HIn.out | (rw[wr2];exact measI HIn.out)
   ·have t15:(k == 15)=false:=by simpa using h15
    have KS:=Hd (see_any hk x0)
    clear hpi htk hsp hcs hrep hLp hvs hrs hi hbl hk
    go_wp2_with fail
    refine KS.out.mono ?_
    rintro e w2 ⟨rfl,hk2,hs2⟩
    have hb2:=hs2.below hb HG.out
    have HR2:=Hd (And.intro hk2 hb2)
    have HOw2:Hid (w2.ownsRow w0.heap.size 26 6 (.slice A1 acc.length c1) acc.length vs):=Hd (by
     have hne:=kb_out HR.out.2.1 HR.out.1
     refine⟨HOw.out.1.1,?_⟩
     rcases HOw.out.1.2 with h3 | ⟨g1,cap,cur,hv,hg1,hh,r⟩
     ·exact .inl h3
     ·exact .inr ⟨g1,cap,cur,hv,hg1,by rw[hs2.block (fun e=>hne (by rw[hv,←e];rfl))];exact hh,r⟩)
    have y0:w2.cell? ⟨b,o+i*6,none⟩=some (.int .i64 k):=cell_stays hb2 (HCS.out 0 _ rfl)
    have y1:=cell_stays hb2 (HCS.out 1 _ rfl)
    have y2:=cell_stays hb2 (HCS.out 2 _ rfl)
    have y3:=cell_stays hb2 (HCS.out 3 _ rfl)
    have y4:=cell_stays hb2 (HCS.out 4 _ rfl)
    have y5:=cell_stays hb2 (HCS.out 5 _ rfl)
    have HC2:=Hd (cellsT_new w2 [.int .i64 k,.string s,.int .i64 n,.slice Ap ps.length cp,.slice Af fs.length cf,.slice Av ws.length cv] 26)
    have HL1:Hid (acc.length+1≤1099511627776):=Hd (by have:=HLen.out;rw[parts1_mk,if_neg h15] at this;simpa using this)
    clear hb hk2 hs2 hb2 KS x0 x3
    go_wp2_with (at_builtin;refine wpList_plain rfl fun K hK=>?_;go_loud (refine wp_append_own_at _ _ 22 rfl w0.heap.size 26 i0 (.agg #[.int .i64 0,.string ⟨#[]⟩,.int .i64 0,.slice none 0 0,.slice none 0 0,.slice none 0 0]) 6 104 Tryz.underlying22 hi0 hz0 hz1 hz2 rfl (by decide) _ _ _ rfl (HOw2.out.alloc _) ⟨w2.heap.size,0,none⟩ 1 1 [.int .i64 k,.string s,.int .i64 n,.slice Ap ps.length cp,.slice Af fs.length cf,.slice Av ws.length cv] rfl rfl ?a0 ?a1 ?a2 ?a3 ?a4 ?_))
    case a0=>exact HC2.out
    case a1=>
     intro u hu
     simp only[List.mem_cons,List.not_mem_nil,or_false] at hu
     rcases hu with rfl | rfl | rfl | rfl | rfl | rfl <;> rfl
    case a2=>have:=HL1.out;unfold maxLen;omega
    case a3=>have:=HL1.out;omega
    case a4=>have:=HR2.out.2.size;simp only[World.size_alloc];omega
    intro v5 w5 hown5 hg5 _ _
    refine hK _ _ ?_
    clear hK K
    have hP5:=out_push HR2.out.1 HR2.out.2 HOw2.out HOw.out.2 HREP.out hown5 hg5
    have HR5:=Hd hP5
    clear hown5 hg5 hP5 y0 y1 y2 y3 y4 y5
    go_wp2_with fail
    refine⟨⟨i+1,_,HIn.out,by first | rfl | rw[wr2],?p1,HR5.out.1,?p2,HR5.out.2.2⟩,?p3⟩
    case p1=>rw[HTk.out,HAcc.out,parts1_mk,if_neg h15,List.append_assoc]
    case p2=>rw[HTk.out,seeL_app,parts1_mk,if_neg h15];exact HR5.out.2.1
    case p3=>first | exact measI HIn.out | exact measT HIn.out | (rw[wr2];exact measI HIn.out)
  ·have t1:decide ((i:Int)<(l.length:Int))=false:=by simp;omega
   have HE:Hid (l.take i=l):=Hd (List.take_of_length_le (by omega))
   clear hi hvs hrs hk hb
   go_wp2_with fail
   go_ret
   have h1:=HR.out
   have h2:=HAcc.out
   rw[HE.out] at h1 h2
   rw[←h2]
   exact⟨.slice A1 acc.length c1,rfl,h1.1,h1.2.1,h1.2.2⟩
theorem flat_any (l:List Ty):FlatP l:=flat_list l fun p _=>Ty.ind (C:=fun t=>FlatP t.ps) (fun _ _ _ ps _ _ hp _ _=>flat_list ps hp) p
structure InT (K:Nat→Prop) (w0 w:World) (g c:Nat) (ts:List Ty):Prop where
 le:ts.length≤c
 mx:c≤maxLen
 blk:∃ cur,w.heap[g]?=some (.cells cur 26 (0,0))∧cur.size=c*6
 reps:∀ (i:Nat) (t:Ty),ts[i]?=some t→∃ cs,RepT K w0 t cs∧∀ (j:Nat) (u:Value),cs[j]?=some u→w.cell? ⟨g,i*6+j,none⟩=some u
theorem InT.lt {K:Nat→Prop} {w0 w:World} {g c:Nat} {ts:List Ty} (h:InT K w0 w g c ts):g<w.heap.size:=by
 obtain⟨cur,h1,_⟩:=h.blk
 exact (Array.getElem?_eq_some_iff.1 h1).1
theorem InT.there {K:Nat→Prop} {w0 w:World} {g c:Nat} {ts:List Ty} (h:InT K w0 w g c ts) {j:Nat} (hj:j<c*6):(w.cell? ⟨g,j,none⟩).isSome=true∧w.frozen? ⟨g,j,none⟩=false:=by
 obtain⟨cur,h1,h2⟩:=h.blk
 refine⟨?_,Lib.frozen_of_heap h1 j⟩
 rw[cell_of_row _ _ _ _ _ _ h1,Array.getElem?_eq_getElem (by omega)]
 rfl
theorem InT.keep {K:Nat→Prop} {w0 w w':World} {g c:Nat} {ts:List Ty} (h:InT K w0 w g c ts) (hk:w'.heap[g]?=w.heap[g]?):InT K w0 w' g c ts:=
 ⟨h.le,h.mx,by rw[hk];exact h.blk,fun i t hi=>by
  obtain⟨cs,h1,h2⟩:=h.reps i t hi
  exact⟨cs,h1,fun j u hj=>(World.cell?_of_block (a:=⟨g,i*6+j,none⟩) hk).trans (h2 j u hj)⟩⟩
theorem InT.later {K:Nat→Prop} {w0 w w':World} {g c:Nat} {ts:List Ty} (h:InT K w0 w g c ts) (hb:Below w.heap.size w w'):InT K w0 w' g c ts:=h.keep (hb.block g h.lt)
theorem InT.of_out {K:Nat→Prop} {w0 w:World} {v:Value} {ts:List Ty} (h:OutT K w0 w v ts):(v=.slice none 0 0∧ts=[])∨∃ g c,v=.slice (some ⟨g,0,none⟩) ts.length c∧w0.heap.size≤g∧InT K w0 w g c ts:=by
 obtain⟨vs,⟨h1,h2⟩,h3⟩:=h
 rcases h2 with ⟨hv,hn⟩ | ⟨g,cap,cur,hv,hg,hh,hc,hm,hs,ht⟩
 ·exact .inl ⟨hv,List.eq_nil_of_length_eq_zero hn⟩
 ·refine .inr ⟨g,cap,hv,hg,hc,hm,⟨cur,hh,hs⟩,fun i t hi=>?_⟩
  obtain⟨hlt,rfl⟩:=List.getElem?_eq_some_iff.1 hi
  obtain⟨cs,h4,h5⟩:=h3 i hlt
  refine⟨cs,h4,fun j u hj=>?_⟩
  have h6:=h5 j u hj
  rw[cell_of_row _ _ _ _ _ _ hh]
  rw[←ht,List.getElem?_take] at h6
  split at h6
  ·simpa using h6
  ·cases h6
theorem row_set (g:Nat) {T:TypeId}:∀ (vs:List Value) (o:Nat) (w:World),(∃ cur n,w.heap[g]?=some (.cells cur T (0,0))∧cur.size=n)→∀ n,(∃ cur,w.heap[g]?=some (.cells cur T (0,0))∧cur.size=n)→∃ cur,(w.setCells g o vs).heap[g]?=some (.cells cur T (0,0))∧cur.size=n
 | [],_,_,_,_,h=>h
 | v :: vs,o,w,hx,n,⟨cur,h1,h2⟩=>by
  have h3:=Go.heap_setCell_same w g o _ _ v h1
  exact row_set g vs (o+1) _ ⟨_,_,h3,rfl⟩ n ⟨_,h3,by rw[Array.size_setIfInBounds];exact h2⟩
theorem InT.put {K:Nat→Prop} {w0 w:World} {g c:Nat} {F ts:List Ty} {t:Ty} {cs:List Value} (h:InT K w0 w g c (F++ts.drop F.length)) (hF:F.length<ts.length) (ht:RepT K w0 t cs) :
  InT K w0 (w.setCells g (F.length*6) cs) g c ((F++[t])++ts.drop (F++[t]).length):=by
 have h6:=ht.six
 have hle:=h.le
 simp only[List.length_append,List.length_drop] at hle
 have hin:∀ j,j<cs.length→(w.cell? ⟨g,F.length*6+j,none⟩).isSome=true:=fun j hj=>(h.there (by omega)).1
 obtain⟨cur,hc1,hc2⟩:=h.blk
 refine⟨by simp;omega,h.mx,row_set g cs _ w ⟨_,_,hc1,rfl⟩ _ ⟨_,hc1,hc2⟩,fun i x hi=>?_⟩
 have hout:i≠F.length→(F++ts.drop F.length)[i]?=some x→∃ cs',RepT K w0 x cs'∧∀ (j:Nat) (u:Value),cs'[j]?=some u→(w.setCells g (F.length*6) cs).cell? ⟨g,i*6+j,none⟩=some u:=by
  intro hne hx
  obtain⟨cs',h1,h2⟩:=h.reps i x hx
  refine⟨cs',h1,fun j u hj=>?_⟩
  have hj6:=(List.getElem?_eq_some_iff.1 hj).1
  rw[h1.six] at hj6
  rw[World.cell?_setCells_out g cs _ w ⟨g,i*6+j,none⟩ (fun _ _=>by show i*6+j<_∨_≤i*6+j;omega)]
  exact h2 j u hj
 rw[List.length_append,List.length_singleton] at hi
 rcases Nat.lt_trichotomy i F.length with hlt | heq | hgt
 ·refine hout (by omega) ?_
  rw[List.append_assoc,List.getElem?_append_left hlt] at hi
  rw[List.getElem?_append_left hlt]
  exact hi
 ·subst heq
  rw[List.append_assoc,List.getElem?_append_right (Nat.le_refl _),Nat.sub_self] at hi
  injection hi with hi
  subst hi
  refine⟨cs,ht,fun j u hj=>?_⟩
  have hj6:=(List.getElem?_eq_some_iff.1 hj)
  rw[World.cell?_setCells_in g cs _ w hin j hj6.1,hj6.2]
 ·refine hout (by omega) ?_
  rw[List.getElem?_append_right (by simp;omega),List.getElem?_drop] at hi
  rw[List.getElem?_append_right (by omega),List.getElem?_drop]
  rw[←hi]
  congr 1
  simp
  omega
def dedupT:List Ty→List Ty
 | []=>[]
 | a :: l=>match l with
  | []=>[a]
  | b :: _=>if ordT a b=0 then dedupT l else a :: dedupT l
def Wk (l:List Ty):Prop:=l.Pairwise fun a b=>ordT a b≤0
theorem mem_dedup (x:Ty):∀ l,x∈dedupT l↔x∈l
 | []=>Iff.rfl
 | [a]=>Iff.rfl
 | a :: b :: l=>by
  rw[dedupT]
  have ih:=mem_dedup x (b :: l)
  split
  ·rename_i h
   rw[ih,ordT_zero.1 h]
   simp
  ·rw[List.mem_cons,ih]
   simp only[List.mem_cons]
theorem asc_dedup:∀ {l},Wk l→Asc (dedupT l)
 | [],_=>List.Pairwise.nil
 | [a],_=>by simp[dedupT,Asc]
 | a :: b :: l,h=>by
  obtain⟨h1,h2⟩:=List.pairwise_cons.1 h
  have ih:=asc_dedup h2
  rw[dedupT]
  split
  ·exact ih
  ·rename_i h3
   have hab:ordT a b = -1:=by
    have:=h1 b (List.mem_cons_self ..)
    rcases ordT_bd a b with e | e | e
    ·exact e
    ·exact absurd e h3
    ·omega
   refine List.pairwise_cons.2 ⟨fun x hx=>?_,ih⟩
   rcases List.mem_cons.1 ((mem_dedup x (b :: l)).1 hx) with rfl | hx2
   ·exact hab
   ·have hbx:=(List.pairwise_cons.1 h2).1 x hx2
    rcases ordT_bd b x with e | e | e
    ·exact ordT_trans hab e
    ·rw[←ordT_zero.1 e];exact hab
    ·omega
theorem sort_dedup {l s:List Ty} (hs:Wk s) (hm:∀ x,x∈s↔x∈l):sortT l=dedupT s:=sortT_of (asc_dedup hs) fun x=>(mem_dedup x s).trans (hm x)
end Go.Proofs.YtlpfpehegddcfaaGreatDoor
