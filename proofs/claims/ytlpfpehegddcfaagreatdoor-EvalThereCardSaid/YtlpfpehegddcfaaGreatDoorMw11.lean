import Derived.Test.YtlpfpehegddcfaaGreatDoorMw8
import Derived.Test.YtlpfpehegddcfaaGreatDoorMw10
namespace Go.Proofs.YtlpfpehegddcfaaGreatDoor
set_option maxRecDepth 100000
set_option maxHeartbeats 64000000
open Go.RowKit
theorem Jcw (l l':Bw) (h:∀v∈l,∀b∈v.2,Qd b) {K K':Nat->Prop}{w:World}{A A':Option Addr}{c c':Nat}(h1:Dd K w l A c) (h2:Dd K' w l' A' c') :
  Calls Tryz.prog 47 #[.slice A l.length c,.slice A' l'.length c'] w fun e w'=>e=.returned (.int .i64 (Cb (Fx (fun v:Z8×List Ty=>D4.s v.1 :: Bz v.2) l) (Fx (fun v:Z8×List Ty=>D4.s v.1 :: Bz v.2) l')))/\Gw w w':=by
 have H1:=Hd h1;have H2:=Hd h2;have HI:=Hd h;have kC:l.length<=1000000000000000:=by obtain⟨_,_,hr,_⟩:=h1;exact hr.big
 have hZ:l'.length<=1000000000000000:=by obtain⟨_,_,hr,_⟩:=h2;exact hr.big
 clear h h1 h2;by_cases hF:l.length=l'.length
 ·rw[Ht (fun v:Z8×List Ty=>D4.s v.1 :: Bz v.2) hF];generalize hI:Dc (fun v:Z8×List Ty=>D4.s v.1 :: Bz v.2) l l' 0=res;have hO:=Hd hI;have hM:=Hd hF;rw[<-hF];have hY:¬ l.length<l.length:=Nat.lt_irrefl _;clear hI hF hZ;go_enter Tryz.func47,Tryz.ntmps47;go_wp2_with fail;refine (Cz _ _ _).mono ?_;rintro e w1 ⟨rfl,rfl⟩;simp only[Oh];go_wp2_with fail
  go_loopw [5,6] (fun vc vi wr=>∃(cc:Int) (i:Nat),i<=l.length/\vc=.int .i64 cc/\vi=.int .i64 i/\F2 cc (Dc (fun v:Z8×List Ty=>D4.s v.1 :: Bz v.2) l l' i)=res/\Gw w1 wr) (fun _ vi _=>l.length - (intOf vi).toNat)
  case atStart=>exact⟨0,0,by omega,by first|rfl|simp,rfl,by rw[Bo];exact hO.o,Gw.refl _⟩
  case round=>
   obtain⟨cc,i,hi,rfl,rfl,ho,hb⟩:=hrel;have HO:=Hd ho;have HB:=Hd hb;clear ho;by_cases hL:cc=0
   ·subst hL;by_cases hE:i<l.length
    ·have t1:decide ((i:Int)<(l.length:Int))=true:=(by simp;omega);have hH:wrap64 ((i:Int)+1)=((i+1:Nat):Int):=Ax (by omega);have HM:=Hd (Bf hE);have hD:i<l'.length:=(by rw[<-hM.o];exact hE);have hG:=Gt (fun v:Z8×List Ty=>D4.s v.1 :: Bz v.2) Qh hM.o hE hD;have hJ:F2 (Cb ((fun v:Z8×List Ty=>D4.s v.1 :: Bz v.2) l[i]) ((fun v:Z8×List Ty=>D4.s v.1 :: Bz v.2) l'[i])) (Dc (fun v:Z8×List Ty=>D4.s v.1 :: Bz v.2) l l' (i+1))=res:=(by rw[<-hG,<-Bo (Dc (fun v:Z8×List Ty=>D4.s v.1 :: Bz v.2) l l' i)];exact HO.o);obtain⟨b,o,hA,_,hS⟩:=H1.o.at (by omega);obtain⟨b',o',hA',_,hat'⟩:=H2.o.at (by omega);subst hA hA';have i0:(0:Int)<=(i:Int):=(by omega);have i1:(i:Int)<(l.length:Int):=(by omega);clear hG;have hN:Z9 (i+1<=l.length):=Hd hE;obtain⟨B,d,hn,hf,-,hT⟩:=hS i hE;obtain⟨B',d',hn',hf',-,hT'⟩:=hat' i hD
     replace hn:=Aa (w:=w1) (w':=wr) hb.below hn
     replace hn':=Aa (w:=w1) (w':=wr) hb.below hn'
     replace hf:=Aa (w:=w1) (w':=wr) hb.below hf
     replace hf':=Aa (w:=w1) (w':=wr) hb.below hf'
     replace hT:=hT.later (w':=wr) hb.below
     replace hT':=hT'.later (w':=wr) hb.below
     have hR:=HI.o _ (List.getElem_mem hE);have hC:F2 (F2 (Dt (l[i]'hE).1 (l'[i]'hD).1) (Cb (Bz (l[i]'hE).2) (Bz (l'[i]'hD).2))) (Dc (fun v:Z8×List Ty=>D4.s v.1 :: Bz v.2) l l' (i+1))=res:=(by rw[<-Qc];exact hJ);generalize kA:(l[i]'hE).1=nm at hn hC;generalize hnm':(l'[i]'hD).1=nm' at hn' hC;generalize hX:(l[i]'hE).2=bl at hf hC hT hR;generalize hfl':(l'[i]'hD).2=bl' at hf' hC hT';have KO:Z9 (∀wx,Below wr.heap.size wr wx->Calls Tryz.prog 45 #[.slice B bl.length d,.slice B' bl'.length d'] wx fun e w'=>e=.returned (.int .i64 (Cb (Bz bl) (Bz bl')))/\Gw wx w'):=Hd fun wx hx=>S3 bl bl' hR (hT.later hx) (hT'.later hx);generalize Cb (Bz bl) (Bz bl')=oo at KO hC;have HC:Z9 (∀wx,Below wr.heap.size wr wx->(wx.cell? ⟨b,o+i*2,none⟩=some (.string nm)/\wx.cell? ⟨b',o'+i*2,none⟩=some (.string nm'))/\wx.cell? ⟨b,o+i*2+1,none⟩=some (.slice B bl.length d)/\wx.cell? ⟨b',o'+i*2+1,none⟩=some (.slice B' bl'.length d')):=Hd fun wx hx=>⟨⟨Aa hx hn,Aa hx hn'⟩,Aa hx hf,Aa hx hf'⟩;have HV:=Hd hC;clear hS hat' hJ hC hi hb hn hn' hf hf' kA hnm' hX hfl' hT hT' hR;rcases H5 nm nm' with ⟨ga,gb,ge⟩|⟨ga,gb,ge⟩|⟨ga,gb,ge⟩
     ·have hP:Z9 (F2 (-1) (Dc (fun v:Z8×List Ty=>D4.s v.1 :: Bz v.2) l l' (i+1))=res):=Hd (by have h:=HV.o;rw[ge,Dv (a:=-1) (by decide)]at h;exact h);clear ge;go_wp2_with fail;refine wp_region_held_drew (S:=(fun w'=>(w'.cell? ⟨b,o+i*2,none⟩=some (.string nm)/\w'.cell? ⟨b',o'+i*2,none⟩=some (.string nm'))/\w'.cell? ⟨b,o+i*2+1,none⟩=some (.slice B bl.length d)/\w'.cell? ⟨b',o'+i*2+1,none⟩=some (.slice B' bl'.length d'))) (by kernel_rfl) (HC.o _ (Below.refl wr.heap.size wr).drew) (fun hB=>?_);refine Ab.s [0,1,2,3,4,5,6,7,8,9,10,11,12,13,14,15,16,17,18,19,20,21] ?_
      iterate 22 (refine Ab.k (so rfl) hB ?_;try simp only[Act.put,Az,Ba,Bb])
      refine Ab.d ?_;refine wpAnyH_ready (rs:=[22]) (by kernel_rfl) (by simp) ?_;refine AllReadyH.cons (sd (some 50) rfl) (fun K hK=>?_) AllReadyH.nil;go_simp;refine (Cz _ _ _).mono ?_;rintro e w2 ⟨rfl,rfl⟩;simp only[Oh];go_wp2_with fail;refine hK.out _ _ (HC.o _ (Below.refl wr.heap.size wr).drew) (fun hB=>?_);clear hK K;try simp only[Act.put,Az,Ba,Bb]
      refine Ab.s [23] ?_;refine Ab.k (so rfl) hB ?_;try simp only[Act.put,Az,Ba,Bb]
      refine Ab.d ?_;refine wpAnyH_done (by kernel_rfl) ?_ _;clear hB;clear i0 i1 t1 ga gb;go_wp2_with fail;refine⟨⟨(-1),i+1,hN.o,by first|rfl|trivial,by first|rfl|rw[hH],hP.o,HB.o.drew⟩,?_⟩;first|exact HM.o|(rw[hH];exact HM.o)
     ·have hP:Z9 (F2 1 (Dc (fun v:Z8×List Ty=>D4.s v.1 :: Bz v.2) l l' (i+1))=res):=Hd (by have h:=HV.o;rw[ge,Dv (a:=1) (by decide)]at h;exact h);clear ge;go_wp2_with fail;refine wp_region_held_drew (S:=(fun w'=>(w'.cell? ⟨b,o+i*2,none⟩=some (.string nm)/\w'.cell? ⟨b',o'+i*2,none⟩=some (.string nm'))/\w'.cell? ⟨b,o+i*2+1,none⟩=some (.slice B bl.length d)/\w'.cell? ⟨b',o'+i*2+1,none⟩=some (.slice B' bl'.length d'))) (by kernel_rfl) (HC.o _ (Below.refl wr.heap.size wr).drew) (fun hB=>?_);refine Ab.s [0,1,2,3,4,5,6,7,8,9,10,11,12,13,14,15,16,17,18,19,20,21] ?_
      iterate 22 (refine Ab.k (so rfl) hB ?_;try simp only[Act.put,Az,Ba,Bb])
      refine Ab.d ?_;refine wpAnyH_ready (rs:=[22]) (by kernel_rfl) (by simp) ?_;refine AllReadyH.cons (sd (some 50) rfl) (fun K hK=>?_) AllReadyH.nil;go_simp;refine (Cz _ _ _).mono ?_;rintro e w2 ⟨rfl,rfl⟩;simp only[Oh];go_wp2_with fail;refine hK.out _ _ (HC.o _ (Below.refl wr.heap.size wr).drew) (fun hB=>?_);clear hK K;try simp only[Act.put,Az,Ba,Bb]
      refine Ab.s [23] ?_;refine Ab.k (so rfl) hB ?_;try simp only[Act.put,Az,Ba,Bb]
      refine Ab.d ?_;refine wpAnyH_done (by kernel_rfl) ?_ _;clear hB;clear i0 i1 t1 ga gb;go_wp2_with fail;refine⟨⟨1,i+1,hN.o,by first|rfl|trivial,by first|rfl|rw[hH],hP.o,HB.o.drew⟩,?_⟩;first|exact HM.o|(rw[hH];exact HM.o)
     ·have hW:Z9 (F2 (oo) (Dc (fun v:Z8×List Ty=>D4.s v.1 :: Bz v.2) l l' (i+1))=res):=Hd (by have h:=HV.o;rw[ge,Bo]at h;exact h);clear ge;go_wp2_with fail;refine wp_region_held_drew (S:=(fun w'=>(w'.cell? ⟨b,o+i*2,none⟩=some (.string nm)/\w'.cell? ⟨b',o'+i*2,none⟩=some (.string nm'))/\w'.cell? ⟨b,o+i*2+1,none⟩=some (.slice B bl.length d)/\w'.cell? ⟨b',o'+i*2+1,none⟩=some (.slice B' bl'.length d'))) (by kernel_rfl) (HC.o _ (Below.refl wr.heap.size wr).drew) (fun hB=>?_);refine Ab.s [0,1,2,3,4,5,6,7,8,9,10,11,12,13,14,15,16,17,18,19,20,21] ?_
      iterate 22 (refine Ab.k (so rfl) hB ?_;try simp only[Act.put,Az,Ba,Bb])
      refine Ab.d ?_;refine wpAnyH_ready (rs:=[22]) (by kernel_rfl) (by simp) ?_;refine AllReadyH.cons (sd (some 50) rfl) (fun K hK=>?_) AllReadyH.nil;go_simp;refine (Cz _ _ _).mono ?_;rintro e w2 ⟨rfl,rfl⟩;simp only[Oh];go_wp2_with fail;refine hK.out _ _ (HC.o _ (Below.refl wr.heap.size wr).drew) (fun hB=>?_);clear hK K;try simp only[Act.put,Az,Ba,Bb]
      refine Ab.s [23] ?_;refine Ab.k (so rfl) hB ?_;try simp only[Act.put,Az,Ba,Bb]
      refine Ab.d ?_;refine wpAnyH_done (by kernel_rfl) ?_ _;clear hB;clear ga gb;go_wp2_with fail;refine wp_region_held_drew (S:=(fun w'=>(w'.cell? ⟨b,o+i*2,none⟩=some (.string nm)/\w'.cell? ⟨b',o'+i*2,none⟩=some (.string nm'))/\w'.cell? ⟨b,o+i*2+1,none⟩=some (.slice B bl.length d)/\w'.cell? ⟨b',o'+i*2+1,none⟩=some (.slice B' bl'.length d'))) (by kernel_rfl) (HC.o _ (Below.refl wr.heap.size wr).drew.drew) (fun hB=>?_);refine Ab.s [0,1,2,3,4,5,6,7,8,9] ?_
      iterate 10 (refine Ab.k (so rfl) hB ?_;try simp only[Act.put,Az,Ba,Bb])
      refine Ab.d ?_;refine wpAnyH_ready (rs:=[10]) (by kernel_rfl) (by simp) ?_;refine AllReadyH.cons (sd (some 63) rfl) (fun K hK=>?_) AllReadyH.nil;go_simp;refine (KO.o _ (Below.refl wr.heap.size wr).drew.drew).mono ?_;rintro e w2 ⟨rfl,hQ⟩;have hU:=Hd ((Below.refl wr.heap.size wr).drew.drew.trans hQ.below);have hV:=Hd ((HB.o.drew.drew).trans hQ);clear hQ;go_wp2_with fail;refine hK.out _ _ (HC.o _ hU.o) (fun hB=>?_);clear hK K;try simp only[Act.put,Az,Ba,Bb]
      refine Ab.s [11] ?_;refine Ab.k (so rfl) hB ?_;try simp only[Act.put,Az,Ba,Bb]
      refine Ab.d ?_;refine wpAnyH_done (by kernel_rfl) ?_ _;clear hB;clear i0 i1 t1;go_wp2_with fail;refine⟨⟨oo,i+1,hN.o,by first|rfl|trivial,by first|rfl|rw[hH],hW.o,hV.o⟩,?_⟩;first|exact HM.o|(rw[hH];exact HM.o)
    ·have t1:decide ((i:Int)<(l.length:Int))=false:=(by simp;omega);have HR:Z9 (res=0):=Hd (by
      have h:=HO.o;rw[show i=l.length from by omega,Hs (fun v:Z8×List Ty=>D4.s v.1 :: Bz v.2) hM.o,Bo]at h;exact h.symm)
     clear hi hb;go_wp2_with fail;go_ret
     exact⟨by rw[HR.o];rfl,HB.o⟩
   ·have kB:(cc == 0)=false:=(by simpa using hL);have HR:Z9 (res=cc):=Hd (by rw[<-HO.o,Dv hL]);clear hi hb hL;go_wp2_with fail;go_ret
    exact⟨by rw[HR.o];rfl,HB.o⟩
 ·rw[Jo (fun v:Z8×List Ty=>D4.s v.1 :: Bz v.2) hF];rcases Gy (l.length:Int) (l'.length:Int) with ⟨ha,hb,he⟩|⟨ha,hb,he⟩|⟨ha,hb,he⟩
  ·have HE:=Hd he;have n1:l.length<l'.length:=by omega
   have n2:¬ l'.length<l.length:=by omega
   clear he hF ha hb;go_enter Tryz.func47,Tryz.ntmps47;go_wp2_with fail;refine (Cz _ _ _).mono ?_;rintro e w1 ⟨rfl,rfl⟩;simp only[Oh];go_wp2_with fail
   go_loopw [5,6] (fun vc _ wr=>vc=.int .i64 (-1)/\wr=w1) (fun _ _ _=>0)
   case atStart=>exact⟨by first|rfl|simp,rfl⟩
   case round=>
    obtain⟨rfl,rfl⟩:=hrel;go_wp2_with fail;go_ret
    exact⟨by rw[HE.o];rfl,Gw.refl _⟩
  ·have HE:=Hd he;have n1:¬ l.length<l'.length:=by omega
   have n2:l'.length<l.length:=by omega
   clear he hF ha hb;go_enter Tryz.func47,Tryz.ntmps47;go_wp2_with fail;refine (Cz _ _ _).mono ?_;rintro e w1 ⟨rfl,rfl⟩;simp only[Oh];go_wp2_with fail
   go_loopw [5,6] (fun vc _ wr=>vc=.int .i64 (1)/\wr=w1) (fun _ _ _=>0)
   case atStart=>exact⟨by first|rfl|simp,rfl⟩
   case round=>
    obtain⟨rfl,rfl⟩:=hrel;go_wp2_with fail;go_ret
    exact⟨by rw[HE.o];rfl,Gw.refl _⟩
  ·exact absurd hF (by omega)
def okV (l:List (Z8×List Bool)) (i:Nat):Bool:=match l[i]? with
 | none=>true
 | some v=>Ca v.1 && decide (v.2.length<=1) && v.2.all id && !((l.take i).any fun x=>decide (x.1=v.1))
def Ef (l:List (Z8×List Bool)):Bool:=(List.range l.length).all (okV l)
def S9 (l:List (Z8×Int×Bool)) (i:Nat):Bool:=match l[i]? with
 | none=>true
 | some f=>Ca f.1 && decide (0<=f.2.1) && decide (f.2.1<=3) && f.2.2 && (match i with|0=>true|j+1=>match l[j]? with|none=>true|some p=>Go.Op.bytesLess p.1.toList f.1.toList)
def Cd (l:List (Z8×Int×Bool)):Bool:=(List.range l.length).all (S9 l)
def Bq (k:Int) (t:Z8) (n:Int) (ps:List Ty) (fo vo:Bool):Bool:=
 if k=9 then decide (0<=n) else if k=16\/k=22\/k=17 then Ca t else if k=13 then vo else if k=14 then fo else if k=15 then Ih ps
 else if k=20 then Ca t && decide (0<=n) && decide (n<=3) else if k=21 then (n == 0 && t.toList == []) || (n == 1 && Ca t) else if k=23 then ps.all fun p=>p.k == 13 else true
def Ai:Ty->Bool
 | .mk k t n ps fs vs=>(Ak k).known && Ar (Ak k) t n ps.length fs.length vs.length && Bq k t n ps (Cd (fs.attach.map fun ⟨f,_⟩=>(f.1,f.2.1,Ai f.2.2))) (Ef (vs.attach.map fun ⟨v,_⟩=>(v.1,v.2.attach.map fun ⟨b,_⟩=>Ai b))) && (ps.attach.map fun ⟨p,_⟩=>Ai p).all id
termination_by t=>SizeOf.sizeOf t
decreasing_by
 ·exact E2 ‹_›
 ·exact Fy ‹_› ‹_›
 ·exact D8 ‹_›
def Bn (fs:Bv) (fv:Ty->Bool):List (Z8×Int×Bool):=fs.map fun f=>(f.1,f.2.1,fv f.2.2)
def Dh (vs:Bw) (fv:Ty->Bool):List (Z8×List Bool):=vs.map fun v=>(v.1,v.2.map fv)
theorem Aw (k t n ps fs vs):Ai (.mk k t n ps fs vs)=((Ak k).known && Ar (Ak k) t n ps.length fs.length vs.length && Bq k t n ps (Cd (Bn fs Ai)) (Ef (Dh vs Ai)) && ps.all Ai):=by
 rw[Ai];unfold Bn Dh;simp only[List.map_attach_eq_pmap,List.pmap_eq_map,List.all_map,Function.comp_def,id_eq]
theorem Jbv {vs:Bw}{fv:Ty->Bool}{i:Nat}(h:i<vs.length):okV (Dh vs fv) i=(Ca vs[i].1 && decide (vs[i].2.length<=1) && vs[i].2.all fv && !((vs.take i).any fun x=>decide (x.1=vs[i].1))):=by
 unfold okV Dh;rw[List.getElem?_map,List.getElem?_eq_getElem h];simp only[Option.map_some,List.length_map,List.all_map,<-List.map_take,List.any_map,Function.comp_def,id_eq]
theorem I0 {fs:Bv}{fv:Ty->Bool}(h:0<fs.length):S9 (Bn fs fv) 0=(Ca fs[0].1 && decide (0<=fs[0].2.1) && decide (fs[0].2.1<=3) && fv fs[0].2.2):=by
 unfold S9 Bn;rw[List.getElem?_map,List.getElem?_eq_getElem h];simp
theorem Kv {fs:Bv}{fv:Ty->Bool}{i:Nat}(h:i+1<fs.length):S9 (Bn fs fv) (i+1)=(Ca fs[i+1].1 && decide (0<=fs[i+1].2.1) && decide (fs[i+1].2.1<=3) && fv fs[i+1].2.2 && Go.Op.bytesLess (fs[i]'(by omega)).1.toList fs[i+1].1.toList):=by
 unfold S9 Bn;rw[List.getElem?_map,List.getElem?_eq_getElem h];have e:(fs.map fun f=>(f.1,f.2.1,fv f.2.2))[i]?=some ((fs[i]'(by omega)).1,(fs[i]'(by omega)).2.1,fv (fs[i]'(by omega)).2.2):=by rw[List.getElem?_map,List.getElem?_eq_getElem (by omega:i<fs.length)];rfl
 simp[e]
theorem Gb (vs:Bw) (fv:Ty->Bool):(Dh vs fv).length=vs.length:=by simp[Dh]
theorem Ee (fs:Bv) (fv:Ty->Bool):(Bn fs fv).length=fs.length:=by simp[Bn]
theorem Gn {n i:Nat}{p:Nat->Bool}(hi:i<n) (h:p i=false):(List.range n).all p=false:=
 Bool.eq_false_iff.2 fun h2=>by have:=Ed.1 h2 i hi;rw[h]at this;cases this
def Fg (l:List Ty):List Ty:=(Bk l).filter fun t=>!(t.k == 1)
theorem Yp {l:List Ty}{i:Nat}(h:i<l.length):Fg (l.take (i+1))=Fg (l.take i)++(C6 l[i]).filter fun t=>!(t.k == 1):=by
 unfold Fg;rw[J5 h,List.filter_append]
theorem Hq {K:Nat->Prop}{w0 w2 w5:World}{v v5:Value}{os:List Ty}{t:Ty}{cs vs:List Value}(hb:Below w0.heap.size w0 w2) (ho:w2.ownsRow w0.heap.size 26 6 v os.length vs) (hr:∀i (h:i<os.length),∃cs,An K w0 os[i] cs/\∀j u,cs[j]?=some u->vs[i*6+j]?=some u)
  (ht:An K w0 t cs) (hA:w5.ownsRow w0.heap.size 26 6 v5 (os.length+1) (vs++cs)) (hg:(w2.alloc (.cells cs.toArray 26)).grownBy w5 v.ownBlock) :
  Cl K w0 w5 v5 (os++[t])/\Below w0.heap.size w0 w5:=by
 have hB:w2.heap.size<=(w2.alloc (.cells cs.toArray 26)).heap.size:=by simp
 exact⟨Cl.snoc (ho.1) hr ht hA,(hb.alloc hb.size _).grown hg (Nat.le_trans hb.size hB) fun k hk=>(ho.lt k hk).1⟩
def Vj (l:List Ty):Prop:=∀(K:Nat->Prop) (w0 w:World) (A:Option Addr) (c:Nat) (v:Value) (os:List Ty),Bh K w0 l A c->Below w0.heap.size w0 w->Cl K w0 w v os->os.length+(Bk l).length<=1099511627776 ->
 Calls Tryz.prog 57 #[.slice A l.length c,v] w fun e w'=>∃v',e=.returned v'/\Cl K w0 w' v' (os++Fg l)/\Below w0.heap.size w0 w'
theorem S8 (l:List Ty):(Fg l).length<=(Bk l).length:=List.length_filter_le _ _
theorem Nv (l:List Ty) (hp:∀p∈l,Vj p.ps):Vj l:=by
 intro K w0 w A c v os hL hb hO kF;have kT:=hL.short;have HL:=Hd hL;have HP:=Hd hp;have kK:=Hd kF;have hX:Z9 (Cl K w0 w v os/\Below w0.heap.size w0 w):=Hd ⟨hO,hb⟩;obtain⟨i0,kO,kP,kQ,kR⟩:=Ec Hf;obtain⟨kU,hF,-⟩:=hO;obtain⟨A0,c0,rfl,-⟩:=Fh hF;obtain⟨n0,kA⟩:∃n0,n0=os.length:=⟨_,rfl⟩;rw[<-kA]at hX hF ⊢;have kS:=Hd kA;clear hL hp kF hb hF kA;go_enter Tryz.func57,Tryz.ntmps57;go_wp2_with fail
 go_loopw [1,5] (fun ov v wr=>∃(i:Nat) (acc:List Ty),i<=l.length/\v=.int .i64 i/\acc=os++Fg (l.take i)/\Cl K w0 wr ov acc/\Below w0.heap.size w0 wr) (fun _ v _=>l.length - (intOf v).toNat)
 case atStart=>exact⟨0,os,by omega,rfl,by simp[Fg,Bk],hX.o.1,hX.o.2⟩
 case round=>
  obtain⟨i,acc,hi,rfl,hM,ho,hb⟩:=hrel;have hB:=Hd hM;clear hM;have HR:=Hd (And.intro ho hb);obtain⟨vs,hH,hQ⟩:=ho;obtain⟨A1,c1,rfl,-⟩:=Fh hH;by_cases hG:i<l.length
  ·have t1:decide ((i:Int)<(l.length:Int))=true:=by simp;omega
   have hI:wrap64 ((i:Int)+1)=((i+1:Nat):Int):=Ax (by omega);have HM:=Hd (Bf hG);obtain⟨b,o,hA,_,kN⟩:=HL.o.at (by omega);have kJ:=kN i hG;have hP:=HP.o _ (List.getElem_mem hG);have hR:=Yp hG;have hN:=J5 hG;have hU:=Md l (i+1);have hZ:=S8 (l.take i);subst hA;generalize l[i]=t at kJ hP hR hN;obtain⟨k,s,n,ps,fs,ws⟩:=t;obtain⟨cs,hD,hC⟩:=kJ;obtain⟨Ap,cp,Af,cf,Av,cv,rfl,-,hT,-,-⟩:=hC.inv;have HREP:=Hd hC;have x0:wr.cell? ⟨b,o+i*6,none⟩=some (.int .i64 k):=Aa hb (hD 0 _ rfl);have x1:=Aa hb (hD 1 _ rfl);have x2:=Aa hb (hD 2 _ rfl);have x3:=Aa hb (hD 3 _ rfl);have x4:=Aa hb (hD 4 _ rfl);have x5:=Aa hb (hD 5 _ rfl);have hV:Z9 (i+1<=l.length):=Hd hG;have hY:=Hd hR;have hW:=Hd (And.intro hH hQ);have hJ:Z9 (acc.length+(C6 (.mk k s n ps fs ws)).length<=1099511627776):=Hd (by
    have h1:=kK.o;rw[hU,hN]at h1;rw[hB.o];simp only[List.length_append]at h1 ⊢;omega)
   by_cases hS:k=15
   ·subst hS;have KF:=Hd (hP K w0 wr Ap cp _ _ hT hb HR.o.1 (by have:=hJ.o;rw[Cw,if_pos rfl]at this;exact this));simp only[Ty.ps]at KF;clear hP hR hN hZ hU hD hC hT hH hQ hb hi x1 x2 x4 x5;go_wp2_with fail;refine KF.o.mono ?_;rintro e w2 ⟨v2,rfl,kI,kE⟩;have kC:=Hd (And.intro kI kE);clear kI kE KF;go_wp2_with fail;refine⟨⟨i+1,_,hV.o,by first|rfl|rw[hI],?p1,kC.o.1,kC.o.2⟩,?p3⟩
    case p1=>rw[hY.o,hB.o,Cw,if_pos rfl,List.append_assoc];rfl
    case p3=>first|exact HM.o|(rw[hI];exact HM.o)
   ·have t15:(k == 15)=false:=(by simpa using hS);by_cases h1:k=1
    ·subst h1;clear hP hR hN hZ hU hD hC hT hH hQ hb hi;go_wp2_with fail;refine⟨⟨i+1,acc,hV.o,by first|rfl|rw[hI],?p1,HR.o.1,HR.o.2⟩,?p3⟩
     case p1=>
      rw[hY.o,hB.o,Cw,if_neg (by decide)];have e:([Ty.mk 1 s n ps fs ws].filter fun t=>!(t.k == 1))=[]:=rfl;rw[e,List.append_nil]
     case p3=>first|exact HM.o|(rw[hI];exact HM.o)
    ·have tn1:(k != 1)=true:=(by simpa using h1);have kH:(k == 1)=false:=(by simpa using h1);have kM:=Hd kH;have kL:=Hd (D6 wr [.int .i64 k,.string s,.int .i64 n,.slice Ap ps.length cp,.slice Af fs.length cf,.slice Av ws.length cv] 26);have kB:Z9 (acc.length+1<=1099511627776):=Hd (by have:=hJ.o;rw[Cw,if_neg hS]at this;simpa using this);have HB:=Hd hb;clear hP hR hN hZ hU hD hC hT hH hQ hi hb kH;go_wp2_with (at_builtin;refine wpList_plain rfl fun K hK=>?_;go_loud (refine B5 _ _ 22 rfl w0.heap.size 26 i0 (.agg #[.int .i64 0,.string ⟨#[]⟩,.int .i64 0,.slice none 0 0,.slice none 0 0,.slice none 0 0]) 6 104 Tryz.underlying22 kO kP kQ kR rfl (by decide) _ _ _ rfl (hW.o.1.alloc _) ⟨wr.heap.size,0,none⟩ 1 1 [.int .i64 k,.string s,.int .i64 n,.slice Ap ps.length cp,.slice Af fs.length cf,.slice Av ws.length cv] rfl rfl ?a0 ?a1 ?a2 ?a3 ?a4 ?_))
     case a0=>exact kL.o
     case a1=>
      intro u hu;simp only[List.mem_cons,List.not_mem_nil,or_false]at hu;rcases hu with rfl|rfl|rfl|rfl|rfl|rfl <;> rfl
     case a2=>have:=kB.o;unfold maxLen;omega
     case a3=>have:=kB.o;omega
     case a4=>have:=HB.o.size;simp only[World.size_alloc];omega
     intro v5 w5 hE kG _ _;refine hK _ _ ?_;clear hK K;have kD:=Hd (Hq HB.o hW.o.1 hW.o.2 HREP.o hE kG);clear hE kG x0 x1 x2 x3 x4 x5;go_wp2_with fail;refine⟨⟨i+1,_,hV.o,by first|rfl|rw[hI],?p1,kD.o.1,kD.o.2⟩,?p3⟩
     case p1=>
      rw[hY.o,hB.o,Cw,if_neg hS,List.append_assoc];have e:([Ty.mk k s n ps fs ws].filter fun t=>!(t.k == 1))=[Ty.mk k s n ps fs ws]:=(by simp[Ty.k,kM.o]);rw[e]
     case p3=>first|exact HM.o|(rw[hI];exact HM.o)
  ·have t1:decide ((i:Int)<(l.length:Int))=false:=by simp;omega
   have HE:Z9 (l.take i=l):=Hd (List.take_of_length_le (by omega));clear hi hH hQ hb;go_wp2_with fail;go_ret
   have h1:=HR.o;have h2:=hB.o;rw[HE.o]at h2;rw[<-h2];exact⟨.slice A1 acc.length c1,rfl,h1.1,h1.2⟩
theorem Xx (l:List Ty):Vj l:=Nv l fun p _=>Ty.ind (C:=fun t=>Vj t.ps) (fun _ _ _ ps _ _ hp _ _=>Nv ps hp) p
def Ms (vs:Bw) (i:Nat):Z8->Option Unit:=fun s=>if ((vs.take i).any fun x=>decide (x.1=s))=true then some () else none
theorem U3 {vs:Bw}{i:Nat}(h:i<vs.length):Ip (Ms vs i) vs[i].1 ()=Ms vs (i+1):=by
 funext s;unfold Ip Ms;rw[List.take_succ_eq_append_getElem h,List.any_append];by_cases e:vs[i].1=s
 ·simp[e]
 ·have e2:decide (vs[i].1=s)=false:=decide_eq_false e;rw[if_neg e];simp only[List.any_cons,List.any_nil,e2,Bool.or_false]
theorem U4 {vs:Bw}{i:Nat}(s:Z8):(Ms vs i s).isSome=(vs.take i).any fun x=>decide (x.1=s):=by
 unfold Ms
 split
 ·rename_i h;rw[h];rfl
 ·rename_i h;rw[Bool.not_eq_true]at h;rw[h];rfl
theorem Kw {p:Nat->Bool}{i:Nat}(h:∀j,j<i->p j=true) (h2:p i=true):∀j,j<i+1->p j=true:=fun j hj=>by
 rcases Nat.lt_or_ge j i with h1|h1
 ·exact h j h1
 ·rw[show j=i from by omega];exact h2
structure VaR (w wr:World) (vs:Bw) (fv:Ty->Bool) (i:Nat):Prop where
 le:i<=vs.length
 ok:∀j,j<i->okV (Dh vs fv) j=true
 map:Da Hu wr w.heap.size i (Ms vs i)
 below:Below w.heap.size w wr
theorem Ny {K:Nat->Prop}{w:World}{vs:Bw}{A:Option Addr}{c:Nat}{fv:Ty->Bool}(hV:Dd K w vs A c) (hf:∀v∈vs,∀b∈v.2,Gi b (fv b)) :
  Calls Tryz.prog 135 #[.slice A vs.length c] w fun e w'=>e=.returned (.bool (Ef (Dh vs fv)))/\Below w.heap.size w w':=by
 have HV:=Hd hV;have HF:=Hd hf;have hlv:vs.length<=1000000000000000:=by obtain⟨_,_,hr,_⟩:=hV;exact hr.big
 have kV:Z9 (VaR w (w.alloc (.map #[] 0)) vs fv 0):=Hd ⟨Nat.zero_le _,fun j hj=>absurd hj (by omega),by
  have h:=Da.new Hu w;have e:Ms vs 0=fun _=>none:=by funext s;simp[Ms]
  rw[e];exact h,(Below.refl _ _).alloc (Nat.le_refl _) _⟩
 have kY:=@run_makeMap Tryz.prog;clear hV hf;go_enter Tryz.func135,Tryz.ntmps135;go_wp2_with fail;clear kY
 go_loopw [11] (fun v wr=>∃i:Nat,v=.int .i64 (i:Int)/\VaR w wr vs fv i) (fun v _=>vs.length - (intOf v).toNat)
 case atStart=>exact⟨0,rfl,kV.o⟩
 case round=>
  obtain⟨i,rfl,hr⟩:=hrel;have HR:=Hd hr;have hP:=hr.le;by_cases hJ:i<vs.length
  ·have t1:decide ((i:Int)<(vs.length:Int))=true:=by simp;omega
   have hY:wrap64 ((i:Int)+1)=((i+1:Nat):Int):=Ax (by omega);have HM:=Hd (Bf hJ);obtain⟨b,o,hA,_,kN⟩:=HV.o.at (by omega);subst hA;obtain⟨B,d,kE,kF,kS,hH⟩:=kN i hJ;have hD:=Jbv (fv:=fv) hJ;have hK:=U3 hJ;have hG:∀b∈vs[i].2,Gi b (fv b):=HF.o _ (List.getElem_mem hJ);have kG:=U4 (vs:=vs) (i:=i) vs[i].1;generalize kZ:vs[i].1=nm at kE hD hK kS kG;generalize hl:vs[i].2=l at kF hH hD hG;have kW:=Aa (w:=w) (w':=wr) hr.below kE;have kX:=Aa (w:=w) (w':=wr) hr.below kF;have kO:Below wr.heap.size wr (wr.alloc (.cells #[.string nm,.slice B l.length d] 62)):=(Below.refl _ _).alloc (Nat.le_refl _) _;have kR:nm.size<=maxLen:=by unfold maxLen;omega
   have lk:(Instr.lookup 186 (.map (some w.heap.size)) (.string nm) true).run Tryz.prog (wr.alloc (.cells #[.string nm,.slice B l.length d] 62))=.ok (.tuple #[.agg #[],.bool ((vs.take i).any fun x=>decide (x.1=nm))]) (wr.alloc (.cells #[.string nm,.slice B l.length d] 62)):=by
    rw[<-kG];exact (hr.map.later kO).look2 nm kR
   generalize hT:((vs.take i).any fun x=>decide (x.1=nm))=seen at lk hD;clear kN kE kF kZ hl kG hT
   cases seen with
   | true=>
    have hL:Z9 (Ef (Dh vs fv)=false):=Hd (Gn (by rw[Gb];exact hJ) (by rw[hD];simp));have hQ:=Hd hr.below;clear hr hP hD hK;go_wp2_with fail;go_ret
    exact⟨by rw[hL.o];rfl,(hQ.o.alloc hQ.o.size _).alloc (by have:=hQ.o.size;simp;omega) _⟩
   | false=>
    have aA:Z9 (wr.heap.size<=((wr.alloc (.cells #[.string nm,.slice B l.length d] 62)).alloc (.cells #[] 193)).heap.size):=Hd (by simp;omega);have hI:Below wr.heap.size wr ((wr.alloc (.cells #[.string nm,.slice B l.length d] 62)).alloc (.cells #[] 193)):=kO.alloc (by simp) _;have hF:Z9 (w.heap.size<=((wr.alloc (.cells #[.string nm,.slice B l.length d] 62)).alloc (.cells #[] 193)).heap.size):=Hd (by have:=hr.below.size;have:=hI.size;omega);have hX:=Hd (hr.below.trans (hI.mono hr.below.size));have kL:=Hd (hr.map.later hI);have kD:((wr.alloc (.cells #[.string nm,.slice B l.length d] 62)).alloc (.cells #[] 193)).heap[wr.heap.size]?=some (.cells #[.string nm,.slice B l.length d] 62 (0,0)):=by
     rw[((Below.refl (wr.alloc (.cells #[.string nm,.slice B l.length d] 62)).heap.size _).alloc (Nat.le_refl _) (.cells #[] 193)).block _ (by simp)];exact heap_alloc_new wr _
    have HX0:Z9 (((wr.alloc (.cells #[.string nm,.slice B l.length d] 62)).alloc (.cells #[] 193)).cell? ⟨wr.heap.size,0,none⟩=some (.string nm)):=Hd (cell_of_row _ _ 0 _ _ _ kD);have HX1:Z9 (((wr.alloc (.cells #[.string nm,.slice B l.length d] 62)).alloc (.cells #[] 193)).cell? ⟨wr.heap.size,1,none⟩=some (.slice B l.length d)):=Hd (cell_of_row _ _ 1 _ _ _ kD);have KN:=Hd (Ex nm ((wr.alloc (.cells #[.string nm,.slice B l.length d] 62)).alloc (.cells #[] 193)) kS);have kJ:Z9 (w.heap.size<wr.heap.size):=Hd hr.map.lt;have kK:Z9 (i<maxLen):=Hd (by unfold maxLen;omega);have kM:=Hd kR;have hZ:Z9 (i+1<=vs.length):=Hd hJ;clear hI kD
    cases hq:Ca nm with
    | false=>
     rw[hq]at KN;have hL:Z9 (Ef (Dh vs fv)=false):=Hd (Gn (by rw[Gb];exact hJ) (by rw[hD];simp[hq]));clear hD hK hr hP;go_wp2_with fail;refine KN.o.mono ?_;rintro e w3 ⟨rfl,hB⟩;have hE:=Hd (hX.o.trans (hB.mono hF.o));clear hB;go_wp2_with fail;go_ret
     exact⟨by rw[hL.o];rfl,hE.o⟩
    | true=>
     rw[hq]at KN
     match l,hH,hG with
     | [],hH,hG=>
      clear hH hG;simp only[List.length_nil]at *;clear hr hP;go_wp2_with fail;refine KN.o.mono ?_;rintro e w3 ⟨rfl,hB⟩;have hE:=Hd (hX.o.trans (hB.mono hF.o));have y0:=Aa hB HX0.o;have y1:=Aa hB HX1.o;obtain⟨w4,hU,hO,hN⟩:=(kL.o.later hB).putL kK.o nm kM.o ();have kH:(Instr.mapUpdate 186 (.map (some w.heap.size)) (.string nm) (.agg #[])).run Tryz.prog w3=.ok () w4:=hU;have hC:w4.heap[wr.heap.size]?=w3.heap[wr.heap.size]?:=hN.block _ (World.block_lt_of_cell? _ _ y0) (by have:=kJ.o;simp only[ne_eq,Option.some.injEq];omega);have z0:=(World.cell?_of_block (a:=⟨wr.heap.size,0,none⟩) hC).trans y0;have z1:=(World.cell?_of_block (a:=⟨wr.heap.size,1,none⟩) hC).trans y1;have hR:Below w.heap.size w w4:=hE.o.grown hN hE.o.size (fun k hk=>by simp only[Option.some.injEq]at hk;omega);rw[hK]at hO;have kA:=Hd hO;have hW:=Hd hR;clear hB hU hO hN hC hR hK;have kU:Z9 (okV (Dh vs fv) i=true):=Hd (by rw[hD];simp[hq]);clear hD;go_wp2_with fail;refine⟨⟨i+1,by first|rfl|rw[hY],hZ.o,Kw HR.o.ok kU.o,kA.o,hW.o⟩,?_⟩;first|exact HM.o|(rw[hY];exact HM.o)
     | [x],hH,hG=>
      obtain⟨bb,bo,rfl,-,hS⟩:=hH.at (by simp);have kP:Dm K w x bb bo:=(by have h:=hS 0 (by simp);simpa using h);have kQ:=hG x (List.mem_singleton.2 rfl);clear hH hG hS;simp only[List.length_cons,List.length_nil,Nat.zero_add]at *;clear hr hP;go_wp2_with fail;refine KN.o.mono ?_;rintro e w3 ⟨rfl,hB⟩;have hE:=Hd (hX.o.trans (hB.mono hF.o));have y0:=Aa hB HX0.o;have y1:=Aa hB HX1.o;obtain⟨w4,hU,hO,hN⟩:=(kL.o.later hB).putL kK.o nm kM.o ();have kH:(Instr.mapUpdate 186 (.map (some w.heap.size)) (.string nm) (.agg #[])).run Tryz.prog w3=.ok () w4:=hU;have hC:w4.heap[wr.heap.size]?=w3.heap[wr.heap.size]?:=hN.block _ (World.block_lt_of_cell? _ _ y0) (by have:=kJ.o;simp only[ne_eq,Option.some.injEq];omega);have z0:=(World.cell?_of_block (a:=⟨wr.heap.size,0,none⟩) hC).trans y0;have z1:=(World.cell?_of_block (a:=⟨wr.heap.size,1,none⟩) hC).trans y1;have hR:Below w.heap.size w w4:=hE.o.grown hN hE.o.size (fun k hk=>by simp only[Option.some.injEq]at hk;omega);rw[hK]at hO;have kA:=Hd hO;have hW:=Hd hR;clear hB hU hO hN hC hR hK;have KF:=Hd (kQ K w4 bb bo (kP.later hW.o));have hM:Z9 (okV (Dh vs fv) i=fv x):=Hd (by rw[hD];simp[hq]);clear hD kP kQ;generalize fv x=r at KF hM;go_wp2_with fail;refine KF.o.mono ?_;rintro e w5 ⟨rfl,kC⟩;have kI:=Hd (C5 hW.o kC);have kT:=Hd (kA.o.later kC);clear kC
      cases r with
      | false=>
       have hL:Z9 (Ef (Dh vs fv)=false):=Hd (Gn (by rw[Gb];exact hZ.o) hM.o);go_wp2_with fail;go_ret
       exact⟨by rw[hL.o];rfl,kI.o⟩
      | true=>
       go_wp2_with fail;refine⟨⟨i+1,by first|rfl|rw[hY],hZ.o,Kw HR.o.ok hM.o,kT.o,kI.o⟩,?_⟩;first|exact HM.o|(rw[hY];exact HM.o)
     | x :: y :: l,hH,hG=>
      clear hH hG;have e2:(x :: y :: l).length=l.length+2:=rfl;have t3:1<l.length+2:=(by omega);have t3b:decide ((1:Int)<((l.length+2:Nat):Int))=true:=(by simp;omega);simp only[List.length_cons]at *;have hL:Z9 (Ef (Dh vs fv)=false):=Hd (Gn (by rw[Gb];exact hJ) (by rw[hD];simp[hq]));clear hD hK hr hP;go_wp2_with fail;refine KN.o.mono ?_;rintro e w3 ⟨rfl,hB⟩;have hE:=Hd (hX.o.trans (hB.mono hF.o));have y1:=Aa hB HX1.o;clear hB;go_wp2_with fail;go_ret
      exact⟨by rw[hL.o];rfl,hE.o⟩
  ·have t1:decide ((i:Int)<(vs.length:Int))=false:=by simp;omega
   have kB:Z9 (Ef (Dh vs fv)=true):=Hd (Ed.2 fun j hj=>hr.ok j (by rw[Gb]at hj;omega));have hQ:=Hd hr.below;clear hr hP HR;go_wp2_with fail;go_ret
   exact⟨by rw[kB.o];rfl,hQ.o⟩
theorem Uf {K:Nat->Prop}{w:World}{t:Ty}{cs:List Value}{r:Bool}(h:An K w t cs) (hf:Gi t r) :
  Calls Tryz.prog 35 #[.agg cs.toArray] w fun e w'=>e=.returned (.bool (decide (Am t<=4096) && r))/\Below w.heap.size w w':=by
 have hA:Below w.heap.size w (w.alloc (.cells cs.toArray 26)):=(Below.refl _ _).alloc (Nat.le_refl _) _;have KN:=Hd (Jl (h.later hA));have KF:=Hd fun wx hx=>hf K wx w.heap.size 0 ((Dm.box 26 h).later hx);have HB1:=Hd hA;have HC:Z9 (decide (((Cs (Am t):Nat):Int)<=4096)=decide (Am t<=4096)):=Hd (by unfold Cs;congr 1;rw[eq_iff_iff];omega);obtain⟨k,s,n,ps,fs,vs⟩:=t;obtain⟨A,c,A',c',A'',c'',rfl,_⟩:=h.inv;generalize Cs (Am (.mk k s n ps fs vs))=q at KN HC;generalize decide (Am (.mk k s n ps fs vs)<=4096)=d at HC ⊢;simp only[Ao]at KN KF HB1 ⊢;clear h hf hA
 cases d with
 | false=>
  have hq:¬ ((q:Int)<=4096):=by have h:=HC.o;simpa using h
  have hF:¬ (q<=4096):=by omega
  go_enter Tryz.func35,Tryz.ntmps35;go_wp2_with fail;refine KN.o.mono ?_;rintro e w1 ⟨rfl,hA⟩;have hB:=Hd (C5 HB1.o hA);clear hA KN;go_wp2_with fail;go_ret
  exact⟨rfl,hB.o⟩
 | true=>
  have hq:((q:Int)<=4096):=by have h:=HC.o;simpa using h
  have hF:(q<=4096):=by omega
  go_enter Tryz.func35,Tryz.ntmps35;go_wp2_with fail;refine KN.o.mono ?_;rintro e w1 ⟨rfl,hA⟩;have hB:=Hd (C5 HB1.o hA);have hE:=Hd (KF.o _ hA);clear hA KN KF;go_wp2_with fail;refine hE.o.mono ?_;rintro e w2 ⟨rfl,hC⟩;have hD:=Hd (C5 hB.o hC);clear hC;go_wp2_with fail;go_ret
  exact⟨rfl,hD.o⟩
theorem Jew (t:Z8) (n:Int) (ps:List Ty) (fs:Bv) (vs:Bw):F4 (.mk 15 t n ps fs vs) (Ih ps):=by
 intro K w b o h;obtain⟨A,c,_,_,_,_,⟨x0,-,-,x3,-,-⟩,-,hP,-⟩:=h.six;have KU:=Hd (Jd9 hP);clear h hP;generalize Ih ps=r at KU ⊢;go_enter Tryz.func96,Tryz.ntmps96;go_wp2_with fail;refine KU.o.mono ?_;rintro e w2 ⟨rfl,hA⟩;have hB:=Hd hA;clear hA;go_wp2_with fail;go_ret
 exact⟨rfl,hB.o⟩
theorem Fo.both {K:Nat->Prop}{w:World}{A:Option Addr}{l c b o:Nat}(h:Fo K A l c b o) (hb:0<l->b<w.heap.size):Fo (fun b=>K b/\b<w.heap.size) A l c b o:=⟨h.le,h.big,h.none,fun hl=>⟨(h.some hl).1,(h.some hl).2,hb hl⟩⟩
theorem An.both {K:Nat->Prop}{w:World}(t:Ty):∀cs,An K w t cs->An (fun b=>K b/\b<w.heap.size) w t cs:=by
 refine Ty.ind (C:=fun t=>∀cs,An K w t cs->An (fun b=>K b/\b<w.heap.size) w t cs) ?_ t;intro k t n ps fs vs ihp ihf ihv cs h;obtain⟨A,c,A',c',A'',c'',rfl,ht,⟨pb,po,hA,hp⟩,⟨fb,fo,hA',hf⟩,⟨vb,vo,hA'',hv⟩⟩:=h.inv;refine An.of ht ⟨pb,po,hA.both (fun hl=>?_),fun i h=>?_⟩ ⟨fb,fo,hA'.both (fun hl=>World.block_lt_of_cell? _ _ (hf 0 hl).1),fun i h=>?_⟩ ⟨vb,vo,hA''.both (fun hl=>?_),fun i h=>?_⟩
 ·obtain⟨cs,h1,h2⟩:=hp 0 hl;have h6:=h2.six;exact World.block_lt_of_cell? _ _ (h1 0 _ (List.getElem?_eq_getElem (by omega)))
 ·obtain⟨cs,h1,h2⟩:=hp i h;exact⟨cs,h1,ihp _ (List.getElem_mem h) cs h2⟩
 ·obtain⟨h1,h2,h3,cs,h4,h5⟩:=hf i h;exact⟨h1,h2,h3,cs,h4,ihf _ (List.getElem_mem h) cs h5⟩
 ·obtain⟨B,d,h1,_⟩:=hv 0 hl;exact World.block_lt_of_cell? _ _ h1
 ·obtain⟨B,d,h1,h2,h3,⟨b,o,h4,h5⟩⟩:=hv i h;refine⟨B,d,h1,h2,h3,⟨b,o,h4.both (fun hl=>?_),fun j h'=>?_⟩⟩
  ·obtain⟨cs,h6,h7⟩:=h5 0 hl;have h8:=h7.six;exact World.block_lt_of_cell? _ _ (h6 0 _ (List.getElem?_eq_getElem (by omega)))
  ·obtain⟨cs,h6,h7⟩:=h5 j h';exact⟨cs,h6,ihv _ (List.getElem_mem h) _ (List.getElem_mem h') cs h7⟩
theorem Bh.both {K:Nat->Prop}{w:World}{l:List Ty}{A:Option Addr}{c:Nat}(h:Bh K w l A c):Bh (fun b=>K b/\b<w.heap.size) w l A c:=by
 obtain⟨b,o,h1,h2⟩:=h;refine⟨b,o,h1.both fun hl=>?_,fun i hi=>?_⟩
 ·obtain⟨cs,h3,h4⟩:=h2 0 hl;have h6:=h4.six;exact World.block_lt_of_cell? _ _ (h3 0 _ (List.getElem?_eq_getElem (by omega)))
 ·obtain⟨cs,h3,h4⟩:=h2 i hi;exact⟨cs,h3,An.both _ _ h4⟩
theorem An.weak {K K':Nat->Prop}{w:World}{t:Ty}{cs:List Value}(h:An K w t cs) (hk:∀b,K b->K' b):An K' w t cs:=An.keep hk (fun _ _ _ _ h=>h) t cs h
theorem Bh.weak {K K':Nat->Prop}{w:World}{l:List Ty}{A:Option Addr}{c:Nat}(h:Bh K w l A c) (hk:∀b,K b->K' b):Bh K' w l A c:=by
 obtain⟨b,o,h1,h2⟩:=h;exact⟨b,o,h1.weak hk,fun i hi=>by obtain⟨cs,h3,h4⟩:=h2 i hi;exact⟨cs,h3,h4.weak hk⟩⟩
theorem Fw {K:Nat->Prop}{B g:Nat}{W:World}{t:Ty}{cs:List Value}(h:An (fun b=>K b\/g<b) W t cs) (hA:∀b,K b->b<g) (hg:B<=g) (y0 y1 y2 y3 y4 y5:Value) :
  An (fun b=>K b\/B<=b) ((((((W.setCell ⟨g,0,none⟩ y0).setCell ⟨g,1,none⟩ y1).setCell ⟨g,2,none⟩ y2).setCell ⟨g,3,none⟩ y3).setCell ⟨g,4,none⟩ y4).setCell ⟨g,5,none⟩ y5) t cs:=
 An.keep (fun b hb=>hb.imp id (fun h=>Nat.le_trans hg (Nat.le_of_lt h))) (fun b o v hk hc=>by
  rw[Jp W y0 y1 y2 y3 y4 y5 (p:=⟨b,o,none⟩) (by
   rcases hk with hk|hk
   ·have:=hA b hk;show b≠_;omega
   ·show b≠_;omega)]
  exact hc) t cs h
theorem Wi (K:Nat->Prop) (w:World) (k:Int):An K w (E7 k) [.int .i64 k,.string ⟨#[]⟩,.int .i64 0,.slice none 0 0,.slice none 0 0,.slice none 0 0]:=
 An.of (by decide) ⟨⟨0,0,⟨by simp,by decide,fun _=>rfl,fun h=>absurd h (by simp)⟩,fun i h=>absurd h (by simp)⟩⟩ ⟨⟨0,0,⟨by simp,by decide,fun _=>rfl,fun h=>absurd h (by simp)⟩,fun i h=>absurd h (by simp)⟩⟩ ⟨⟨0,0,⟨by simp,by decide,fun _=>rfl,fun h=>absurd h (by simp)⟩,fun i h=>absurd h (by simp)⟩⟩
def Jw:Prop:=∀(K:Nat->Prop) (w:World) (l:List Ty) (A:Option Addr) (c:Nat),Bh K w l A c->(Bk l).length<=1099511627776->(∀b,K b->b<w.heap.size)->Calls Tryz.prog 68 #[.slice A l.length c] w (Ek K w (Bl l))
theorem Qa (hU:Jw) {K:Nat->Prop}{w0 w:World}{v:Value}{ts:List Ty}(h:Cl K w0 w v ts) (hA:∀b,K b->b<w0.heap.size) (hb:Below w0.heap.size w0 w) (hn:(Bk ts).length<=1099511627776) (hl:ts.length<=1000000000000000) :
  Calls Tryz.prog 68 #[v] w fun e w'=>∃rs,e=.returned (.agg rs.toArray)/\An (fun b=>K b\/w0.heap.size<=b) w' (Bl ts) rs/\Below w.heap.size w w':=by
 obtain⟨A,c,rfl,hL⟩:=h.list hA hb hl;refine (hU _ w ts A c hL.both hn fun b h=>h.2).mono ?_;rintro e w' ⟨rs,rfl,hr,hb'⟩;refine⟨rs,rfl,hr.weak fun b h=>?_,hb'⟩;rcases h with h|h
 ·exact h.1
 ·exact .inr (Nat.le_trans hb.size h)
theorem Ay {w w':World}{b:Nat}{o:Obj}(hb:Below w.heap.size w w') (hA:b<w.heap.size) (h:w.heap[b]?=some o):w'.heap[b]?=some o:=(hb.block b hA).trans h
open Go.Shelf Go.RowKit Go.Lib Go.Sort
def TyC (K:Nat->Prop) (w0:World):Type:={p:Ty×List Value // An K w0 p.1 p.2}
instance (K:Nat->Prop) (w0:World):Inhabited (TyC K w0):=⟨⟨(E7 1,_),Lt K w0⟩⟩
def Mx {K:Nat->Prop} {w0:World} (x:TyC K w0):List Value:=x.1.2
def cfC {K:Nat->Prop} {w0:World} (x y:TyC K w0):Int:=B6 x.1.1 y.1.1
theorem Nt {K:Nat->Prop}{w0:World}(x:TyC K w0):(Mx x).length=6:=x.2.six
theorem Φ {K:Nat->Prop}{w0:World}(x:TyC K w0):∀v∈Mx x,v.oneCell'=true:=by
 obtain⟨⟨⟨k,s,n,ps,fs,vs⟩,cs⟩,h⟩:=x;obtain⟨A,c,A',c',A'',c'',rfl,_⟩:=h.inv;intro v hv;simp only[Mx,Ao,List.mem_cons,List.not_mem_nil,or_false]at hv;rcases hv with rfl|rfl|rfl|rfl|rfl|rfl <;> rfl
theorem Jbk {K:Nat->Prop}{w0:World}{x y:TyC K w0}:ltOf cfC x y=true↔B6 x.1.1 y.1.1<0:=by
 unfold ltOf;exact decide_eq_true_iff
theorem S5 {K:Nat->Prop}{w0:World}{x y:TyC K w0}:ltOf cfC x y=false↔0<=B6 x.1.1 y.1.1:=by
 unfold ltOf;exact decide_eq_false_iff_not.trans Int.not_lt
theorem lt_trans {a b c:Ty}(h1:B6 a b<0) (h2:B6 b c<0):B6 a c<0:=by
 rcases Gq a b with e|e|e
 ·rcases Gq b c with e'|e'|e'
  ·rw[Ga e e'];decide
  ·omega
  ·omega
 ·omega
 ·omega
theorem Jha (K:Nat->Prop) (w0:World):SWO (ltOf (cfC (K:=K) (w0:=w0))) where
 irrefl x:=S5.2 (by rw[Dl.2 rfl];decide)
 trans x y z h1 h2:=Jbk.2 (lt_trans (Jbk.1 h1) (Jbk.1 h2))
 ntrans x y z h1 h2:=S5.2 (Jel (S5.1 h1) (S5.1 h2))
theorem Jg0 {K:Nat->Prop}{w0 w:World}{g size:Nat}(hb:Below w0.heap.size w0 w) (hg:w0.heap.size<=g):CmpLays Tryz.prog 101 #[] (Mx (K:=K) (w0:=w0)) 6 cfC g 0 size w:=by
 intro m os dk _ x y;have hk:∀b o v,K b->w0.cell? ⟨b,o,none⟩=some v->(sortWorldK (Mx (K:=K) (w0:=w0)) 6 w g 0 m dk os).cell? ⟨b,o,none⟩=some v:=fun b o v _ hc=>by
  have hA:b<w0.heap.size:=World.block_lt_of_cell? _ _ hc;rw[cell?_sortWorldK_other _ _ _ _ _ _ _ _ ⟨b,o,none⟩ (by show b≠g;omega) (Nat.lt_of_lt_of_le hA hb.size)];exact Aa hb hc
 exact Wt (An.keep (fun _ h=>h) hk _ _ x.2) (An.keep (fun _ h=>h) hk _ _ y.2)
theorem Li {α:Type} [Inhabited α] {enc:α->List Value}{w:World}{g m:Nat}{dk:Array α}{os:Array Obj}:(sortWorldK enc 6 w g 0 m dk os).heap=(w.heap.modify g (onCells (putCells id 0 (flatK enc 6 dk))))++os:=rfl
theorem Zt {α:Type} [Inhabited α] {enc:α->List Value}{w:World}{g m:Nat}{dk:Array α}{os:Array Obj}{cur:Array Value}{T:TypeId}(hb:w.heap[g]?=some (.cells cur T (0,0))):∃cur',(sortWorldK enc 6 w g 0 m dk os).heap[g]?=some (.cells cur' T (0,0))/\cur'.size=cur.size:=by
 have hA:=(Array.getElem?_eq_some_iff.1 hb).1;refine⟨putCells id 0 (flatK enc 6 dk) cur,?_,by simp[putCells]⟩;rw[Li,Array.getElem?_append_left (by simpa using hA),Array.getElem?_modify,if_pos rfl,hb];rfl
theorem U6 {α:Type} [Inhabited α] {enc:α->List Value}{w0 w:World}{g m:Nat}{dk:Array α}{os:Array Obj}(hb:RowKit.Below w0.heap.size w0 w) (hg:w0.heap.size<=g):RowKit.Below w0.heap.size w0 (sortWorldK enc 6 w g 0 m dk os):=by
 have h1:=hb.size;refine⟨hb.os,hb.tape,hb.output,?_,fun k hk=>?_⟩
 ·rw[Li];simp;omega
 ·rw[Li,Array.getElem?_append_left (by simp;omega),Array.getElem?_modify,if_neg (by omega)];exact hb.block k hk
theorem Wu (b j:Nat):((⟨b,0,none⟩:Addr).add j)=⟨b,j,none⟩:=by unfold Addr.add;by_cases h0:j=0 <;> simp[h0]
