import Derived.Test.YtlpfpehegddcfaaGreatDoorMx0
namespace Go.Proofs.YtlpfpehegddcfaaGreatDoor
set_option maxRecDepth 100000
set_option maxHeartbeats 64000000
open Go.RowKit
theorem Aa {w w':World}{p:Addr}{v:Value}(hb:Below w.heap.size w w') (h:w.cell? p=some v):w'.cell? p=some v:=
 (hb.cell (World.block_lt_of_cell? _ _ h)).trans h
theorem Cx {w a b:World}(h:Below w.heap.size w a) (h':Below a.heap.size a b):Below w.heap.size w b:=h.trans (h'.mono h.size)
def Az (k:Int) (t:Z8) (n:Int) (A:Option Addr) (l c:Nat) (A':Option Addr) (l' c':Nat) (A'':Option Addr) (l'' c'':Nat):List Value:=
 [.int .i64 k,.string t,.int .i64 n,.slice A l c,.slice A' l' c',.slice A'' l'' c'']
structure Fd (K:Nat->Prop) (A:Option Addr) (l c b o:Nat):Prop where
 le:l<=c
 big:l<=1000000000000000
 none:A=none->c=0
 some:0<l->A=some ⟨b,o,Option.none⟩/\K b
inductive Aw (K:Nat->Prop) (w:World):Ty->List Value->Prop
 | mk (k:Int) (t:Z8) (n:Int) (ps:List Ty) (fs:Bx) (vs:Bt) (A:Option Addr) (c:Nat) (A':Option Addr) (c':Nat) (A'':Option Addr) (c'':Nat)
   (pb po fb fo vb vo:Nat) (pc fc:Nat->List Value) (bA:Nat->Option Addr) (bc bb bo:Nat->Nat) (bcs:Nat->Nat->List Value)
   (ht:t.size<=1000000000000000) (hA:Fd K A ps.length c pb po) (hA':Fd K A' fs.length c' fb fo) (hA'':Fd K A'' vs.length c'' vb vo)
   (pcell:∀i,i<ps.length->∀j u,(pc i)[j]?=some u->w.cell? ⟨pb,po+i*6+j,none⟩=some u)
   (prep:∀i (h:i<ps.length),Aw K w ps[i] (pc i))
   (fcell:∀i (h:i<fs.length),w.cell? ⟨fb,fo+i*8,none⟩=some (.string fs[i].1)/\w.cell? ⟨fb,fo+i*8+1,none⟩=some (.int .i64 fs[i].2.1)/\fs[i].1.size<=1000000000000000/\∀j u,(fc i)[j]?=some u->w.cell? ⟨fb,fo+i*8+2+j,none⟩=some u)
   (frep:∀i (h:i<fs.length),Aw K w fs[i].2.2 (fc i))
   (vcell:∀i (h:i<vs.length),w.cell? ⟨vb,vo+i*2,none⟩=some (.string vs[i].1)/\w.cell? ⟨vb,vo+i*2+1,none⟩=some (.slice (bA i) vs[i].2.length (bc i))/\vs[i].1.size<=1000000000000000/\Fd K (bA i) vs[i].2.length (bc i) (bb i) (bo i))
   (bcell:∀i (h:i<vs.length) j,j<vs[i].2.length->∀x u,(bcs i j)[x]?=some u->w.cell? ⟨bb i,bo i+j*6+x,none⟩=some u)
   (brep:∀i (h:i<vs.length) j (h':j<vs[i].2.length),Aw K w vs[i].2[j] (bcs i j)) :
   Aw K w (.mk k t n ps fs vs) (Az k t n A ps.length c A' fs.length c' A'' vs.length c'')
def De (K:Nat->Prop) (w:World) (t:Ty) (b o:Nat):Prop:=∃cs,(∀j u,cs[j]?=some u->w.cell? ⟨b,o+j,none⟩=some u)/\Aw K w t cs
structure Bk (K:Nat->Prop) (w:World) (l:List Ty) (A:Option Addr) (c:Nat):Prop where
 ex:∃b o,Fd K A l.length c b o/\∀i (h:i<l.length),De K w l[i] b (o+i*6)
structure Dt (K:Nat->Prop) (w:World) (l:Bx) (A:Option Addr) (c:Nat):Prop where
 ex:∃b o,Fd K A l.length c b o/\∀i (h:i<l.length),w.cell? ⟨b,o+i*8,none⟩=some (.string l[i].1)/\w.cell? ⟨b,o+i*8+1,none⟩=some (.int .i64 l[i].2.1)/\l[i].1.size<=1000000000000000/\De K w l[i].2.2 b (o+i*8+2)
structure Da (K:Nat->Prop) (w:World) (l:Bt) (A:Option Addr) (c:Nat):Prop where
 ex:∃b o,Fd K A l.length c b o/\∀i (h:i<l.length),∃B d,w.cell? ⟨b,o+i*2,none⟩=some (.string l[i].1)/\w.cell? ⟨b,o+i*2+1,none⟩=some (.slice B l[i].2.length d)/\l[i].1.size<=1000000000000000/\Bk K w l[i].2 B d
theorem Aw.inv {K:Nat->Prop}{w:World}{k:Int}{t:Z8}{n:Int}{ps:List Ty}{fs:Bx}{vs:Bt}{cs:List Value}(h:Aw K w (.mk k t n ps fs vs) cs) :
  ∃A c A' c' A'' c'',cs=Az k t n A ps.length c A' fs.length c' A'' vs.length c''/\t.size<=1000000000000000/\Bk K w ps A c/\Dt K w fs A' c'/\Da K w vs A'' c'':=by
 cases h with
 | mk _ _ _ _ _ _ A c A' c' A'' c'' pb po fb fo vb vo pc fc bA bc bb bo bcs ht hA hA' hA'' pcell prep fcell frep vcell bcell brep=>
  exact⟨A,c,A',c',A'',c'',rfl,ht,⟨pb,po,hA,fun i h=>⟨pc i,pcell i h,prep i h⟩⟩,⟨fb,fo,hA',fun i h=>⟨(fcell i h).1,(fcell i h).2.1,(fcell i h).2.2.1,fc i,(fcell i h).2.2.2,frep i h⟩⟩,⟨vb,vo,hA'',fun i h=>⟨bA i,bc i,(vcell i h).1,(vcell i h).2.1,(vcell i h).2.2.1,⟨bb i,bo i,(vcell i h).2.2.2,fun j h'=>⟨bcs i j,bcell i h j h',brep i h j h'⟩⟩⟩⟩⟩
theorem Aw.of {K:Nat->Prop}{w:World}{k:Int}{t:Z8}{n:Int}{ps:List Ty}{fs:Bx}{vs:Bt}{A:Option Addr}{c:Nat}{A':Option Addr}{c':Nat}{A'':Option Addr}{c'':Nat}(ht:t.size<=1000000000000000) (hp:Bk K w ps A c) (hf:Dt K w fs A' c') (hv:Da K w vs A'' c'') :
  Aw K w (.mk k t n ps fs vs) (Az k t n A ps.length c A' fs.length c' A'' vs.length c''):=by
 classical
 obtain⟨pb,po,hA,hp⟩:=hp;obtain⟨fb,fo,hA',hf⟩:=hf;obtain⟨vb,vo,hA'',hv⟩:=hv;have hp':∃pc:Nat->List Value,∀i (h:i<ps.length),(∀j u,(pc i)[j]?=some u->w.cell? ⟨pb,po+i*6+j,none⟩=some u)/\Aw K w ps[i] (pc i):=
  ⟨fun i=>if h:i<ps.length then (hp i h).choose else [],fun i h=>by simp only[dif_pos h];exact (hp i h).choose_spec⟩
 obtain⟨pc,hD⟩:=hp';have hf':∃fc:Nat->List Value,∀i (h:i<fs.length),(∀j u,(fc i)[j]?=some u->w.cell? ⟨fb,fo+i*8+2+j,none⟩=some u)/\Aw K w fs[i].2.2 (fc i):=
  ⟨fun i=>if h:i<fs.length then (hf i h).2.2.2.choose else [],fun i h=>by simp only[dif_pos h];exact (hf i h).2.2.2.choose_spec⟩
 obtain⟨fc,hC⟩:=hf';have hv':∃(bA:Nat->Option Addr) (bc bb bo:Nat->Nat) (bcs:Nat->Nat->List Value),∀i (h:i<vs.length),w.cell? ⟨vb,vo+i*2,none⟩=some (.string vs[i].1)/\w.cell? ⟨vb,vo+i*2+1,none⟩=some (.slice (bA i) vs[i].2.length (bc i))/\vs[i].1.size<=1000000000000000/\Fd K (bA i) vs[i].2.length (bc i) (bb i) (bo i)/\∀j (h':j<vs[i].2.length),(∀x u,(bcs i j)[x]?=some u->w.cell? ⟨bb i,bo i+j*6+x,none⟩=some u)/\Aw K w vs[i].2[j] (bcs i j):=by
  have one:∀i (h:i<vs.length),∃(q:Option Addr×Nat×Nat×Nat×(Nat->List Value)),w.cell? ⟨vb,vo+i*2,none⟩=some (.string vs[i].1)/\w.cell? ⟨vb,vo+i*2+1,none⟩=some (.slice q.1 vs[i].2.length q.2.1)/\vs[i].1.size<=1000000000000000/\Fd K q.1 vs[i].2.length q.2.1 q.2.2.1 q.2.2.2.1/\∀j (h':j<vs[i].2.length),(∀x u,(q.2.2.2.2 j)[x]?=some u->w.cell? ⟨q.2.2.1,q.2.2.2.1+j*6+x,none⟩=some u)/\Aw K w vs[i].2[j] (q.2.2.2.2 j):=by
   intro i h;obtain⟨B,d,h1,h2,h3,⟨b,o,h4,h5⟩⟩:=hv i h;exact⟨⟨B,d,b,o,fun j=>if h':j<vs[i].2.length then (h5 j h').choose else []⟩,h1,h2,h3,h4,fun j h'=>by simp only[dif_pos h'];exact (h5 j h').choose_spec⟩
  exact⟨fun i=>if h:i<vs.length then (one i h).choose.1 else none,fun i=>if h:i<vs.length then (one i h).choose.2.1 else 0,fun i=>if h:i<vs.length then (one i h).choose.2.2.1 else 0,fun i=>if h:i<vs.length then (one i h).choose.2.2.2.1 else 0,fun i=>if h:i<vs.length then (one i h).choose.2.2.2.2 else fun _=>[],fun i h=>by simp only[dif_pos h];exact (one i h).choose_spec⟩
 obtain⟨bA,bc,bb,bo,bcs,hB⟩:=hv';exact Aw.mk k t n ps fs vs A c A' c' A'' c'' pb po fb fo vb vo pc fc bA bc bb bo bcs ht hA hA' hA'' (fun i h=>(hD i h).1) (fun i h=>(hD i h).2) (fun i h=>⟨(hf i h).1,(hf i h).2.1,(hf i h).2.2.1,(hC i h).1⟩) (fun i h=>(hC i h).2)
  (fun i h=>⟨(hB i h).1,(hB i h).2.1,(hB i h).2.2.1,(hB i h).2.2.2.1⟩) (fun i h j h'=>((hB i h).2.2.2.2 j h').1) (fun i h j h'=>((hB i h).2.2.2.2 j h').2)
theorem Fd.weak {K K':Nat->Prop}(hk:∀b,K b->K' b) {A:Option Addr}{l c b o:Nat}(h:Fd K A l c b o):Fd K' A l c b o:=⟨h.le,h.big,h.none,fun hl=>⟨(h.some hl).1,hk _ (h.some hl).2⟩⟩
theorem Aw.keep {K K':Nat->Prop}{w w':World}(hK:∀b,K b->K' b) (hk:∀b o v,K b->w.cell? ⟨b,o,none⟩=some v->w'.cell? ⟨b,o,none⟩=some v) (t:Ty):∀cs,Aw K w t cs->Aw K' w' t cs:=by
 refine Ty.ind (C:=fun t=>∀cs,Aw K w t cs->Aw K' w' t cs) ?_ t;intro k t n ps fs vs ihp ihf ihv cs h;obtain⟨A,c,A',c',A'',c'',rfl,ht,⟨pb,po,hA,hp⟩,⟨fb,fo,hA',hf⟩,⟨vb,vo,hA'',hv⟩⟩:=h.inv;refine Aw.of ht ⟨pb,po,hA.weak hK,fun i h=>?_⟩ ⟨fb,fo,hA'.weak hK,fun i h=>?_⟩ ⟨vb,vo,hA''.weak hK,fun i h=>?_⟩
 ·obtain⟨cs,h1,h2⟩:=hp i h;have hb:=(hA.some (by omega)).2;exact⟨cs,fun j u hj=>hk _ _ _ hb (h1 j u hj),ihp _ (List.getElem_mem h) cs h2⟩
 ·obtain⟨h1,h2,h3,cs,h4,h5⟩:=hf i h;have hb:=(hA'.some (by omega)).2;exact⟨hk _ _ _ hb h1,hk _ _ _ hb h2,h3,cs,fun j u hj=>hk _ _ _ hb (h4 j u hj),ihf _ (List.getElem_mem h) cs h5⟩
 ·obtain⟨B,d,h1,h2,h3,⟨b,o,h4,h5⟩⟩:=hv i h;have hb:=(hA''.some (by omega)).2;refine⟨B,d,hk _ _ _ hb h1,hk _ _ _ hb h2,h3,⟨b,o,h4.weak hK,fun j h'=>?_⟩⟩;obtain⟨cs,h6,h7⟩:=h5 j h';have hb:=(h4.some (by omega)).2;exact⟨cs,fun x u hx=>hk _ _ _ hb (h6 x u hx),ihv _ (List.getElem_mem h) _ (List.getElem_mem h') cs h7⟩
theorem De.keep {K K':Nat->Prop}{w w':World}{t:Ty}{b o:Nat}(h:De K w t b o) (hK:∀b,K b->K' b) (hk:∀b o v,K b->w.cell? ⟨b,o,none⟩=some v->w'.cell? ⟨b,o,none⟩=some v) (hb:∀o v,w.cell? ⟨b,o,none⟩=some v->w'.cell? ⟨b,o,none⟩=some v):De K' w' t b o:=by
 obtain⟨cs,h1,h2⟩:=h;exact⟨cs,fun j u hj=>hb _ _ (h1 j u hj),Aw.keep hK hk t cs h2⟩
theorem Aw.later {K:Nat->Prop}{w w':World}{t:Ty}{cs:List Value}(h:Aw K w t cs) (hb:Below w.heap.size w w'):Aw K w' t cs:=Aw.keep (fun _ h=>h) (fun _ _ _ _ h=>Aa hb h) t cs h
theorem De.later {K:Nat->Prop}{w w':World}{t:Ty}{b o:Nat}(h:De K w t b o) (hb:Below w.heap.size w w'):De K w' t b o:=h.keep (fun _ h=>h) (fun _ _ _ _ h=>Aa hb h) (fun _ _ h=>Aa hb h)
theorem Bk.later {K:Nat->Prop}{w w':World}{l:List Ty}{A:Option Addr}{c:Nat}(h:Bk K w l A c) (hb:Below w.heap.size w w'):Bk K w' l A c:=by
 obtain⟨b,o,h1,h2⟩:=h;exact⟨b,o,h1,fun i hi=>(h2 i hi).later hb⟩
theorem Dt.later {K:Nat->Prop}{w w':World}{l:Bx}{A:Option Addr}{c:Nat}(h:Dt K w l A c) (hb:Below w.heap.size w w'):Dt K w' l A c:=by
 obtain⟨b,o,h1,h2⟩:=h;exact⟨b,o,h1,fun i hi=>⟨Aa hb (h2 i hi).1,Aa hb (h2 i hi).2.1,(h2 i hi).2.2.1,(h2 i hi).2.2.2.later hb⟩⟩
theorem Da.later {K:Nat->Prop}{w w':World}{l:Bt}{A:Option Addr}{c:Nat}(h:Da K w l A c) (hb:Below w.heap.size w w'):Da K w' l A c:=by
 obtain⟨b,o,h1,h2⟩:=h;refine⟨b,o,h1,fun i hi=>?_⟩;obtain⟨B,d,h3,h4,h5,h6⟩:=h2 i hi;exact⟨B,d,Aa hb h3,Aa hb h4,h5,h6.later hb⟩
theorem De.six {K:Nat->Prop}{w:World}{k:Int}{t:Z8}{n:Int}{ps:List Ty}{fs:Bx}{vs:Bt}{b o:Nat}(h:De K w (.mk k t n ps fs vs) b o) :
  ∃A c A' c' A'' c'',(w.cell? ⟨b,o,none⟩=some (.int .i64 k)/\w.cell? ⟨b,o+1,none⟩=some (.string t)/\w.cell? ⟨b,o+2,none⟩=some (.int .i64 n)/\w.cell? ⟨b,o+3,none⟩=some (.slice A ps.length c)/\w.cell? ⟨b,o+4,none⟩=some (.slice A' fs.length c')/\w.cell? ⟨b,o+5,none⟩=some (.slice A'' vs.length c''))/\t.size<=1000000000000000/\Bk K w ps A c/\Dt K w fs A' c'/\Da K w vs A'' c'':=by
 obtain⟨cs,h1,h2⟩:=h;obtain⟨A,c,A',c',A'',c'',rfl,h3⟩:=h2.inv;exact⟨A,c,A',c',A'',c'',⟨h1 0 _ rfl,h1 1 _ rfl,h1 2 _ rfl,h1 3 _ rfl,h1 4 _ rfl,h1 5 _ rfl⟩,h3⟩
theorem De.box {K:Nat->Prop}{w:World}{t:Ty}{cs:List Value}(T:TypeId) (h:Aw K w t cs):De K (w.alloc (.cells cs.toArray T)) t w.heap.size 0:=by
 refine⟨cs,fun j u hj=>?_,h.later ((Below.refl _ _).alloc (Nat.le_refl _) _)⟩;rw[cell_of_row _ _ _ _ _ _ (heap_alloc_new w _),Nat.zero_add];simpa using hj
theorem Bk.at {K:Nat->Prop}{w:World}{l:List Ty}{A:Option Addr}{c:Nat}(h:Bk K w l A c) (h0:0<l.length):∃b o,A=some ⟨b,o,none⟩/\K b/\∀i (h:i<l.length),De K w l[i] b (o+i*6):=by
 obtain⟨b,o,h1,h2⟩:=h;exact⟨b,o,(h1.some h0).1,(h1.some h0).2,h2⟩
theorem Dt.at {K:Nat->Prop}{w:World}{l:Bx}{A:Option Addr}{c:Nat}(h:Dt K w l A c) (h0:0<l.length):∃b o,A=some ⟨b,o,none⟩/\K b/\∀i (h:i<l.length),w.cell? ⟨b,o+i*8,none⟩=some (.string l[i].1)/\w.cell? ⟨b,o+i*8+1,none⟩=some (.int .i64 l[i].2.1)/\l[i].1.size<=1000000000000000/\De K w l[i].2.2 b (o+i*8+2):=by
 obtain⟨b,o,h1,h2⟩:=h;exact⟨b,o,(h1.some h0).1,(h1.some h0).2,h2⟩
theorem Da.at {K:Nat->Prop}{w:World}{l:Bt}{A:Option Addr}{c:Nat}(h:Da K w l A c) (h0:0<l.length):∃b o,A=some ⟨b,o,none⟩/\K b/\∀i (h:i<l.length),∃B d,w.cell? ⟨b,o+i*2,none⟩=some (.string l[i].1)/\w.cell? ⟨b,o+i*2+1,none⟩=some (.slice B l[i].2.length d)/\l[i].1.size<=1000000000000000/\Bk K w l[i].2 B d:=by
 obtain⟨b,o,h1,h2⟩:=h;exact⟨b,o,(h1.some h0).1,(h1.some h0).2,h2⟩
def Fw (a b:Int):Int:=if a≠0 then a else b
theorem Bn (b:Int):Fw 0 b=b:=by simp[Fw]
theorem Dr {a:Int}(h:a≠0) (b:Int):Fw a b=a:=by simp[Fw,h]
theorem Bo.self {x y:List Dy}{c:Int}(h:Bo x y c):Bo x y (Ca x y):=h.to h.val.symm
theorem Bo.lex_app {x y x' y':List Dy}{c c':Int}(h:Bo x y c) (h':Bo x' y' c'):Ca (x++x') (y++y')=Fw (Ca x y) (Ca x' y'):=by
 rw[(h.app h').val,h.val,h'.val];rfl
theorem Bo.items {α:Type}(e:α->List Dy):∀(l l':List α),l.length=l'.length->(∀x∈l,∀y,Bo (e x) (e y) (Ca (e x) (e y)))->Bo (l.map e).flatten (l'.map e).flatten (Ca (l.map e).flatten (l'.map e).flatten)
 | [],[],_,_=>Bo.nil.self
 | [],_ :: _,h,_=>by simp at h
 | _ :: _,[],h,_=>by simp at h
 | a :: l,b :: l',h,hc=>by
  simp only[List.map_cons,List.flatten_cons];exact ((hc a (List.mem_cons_self ..) b).app (Bo.items e l l' (by simpa using h) (fun x hx=>hc x (List.mem_cons_of_mem _ hx)))).self
def Fj {α:Type} (e:α->List Dy) (l:List α):List Dy:=.i l.length :: (l.map e).flatten
theorem Bo.rows {α:Type}(e:α->List Dy) (l l':List α) (hc:∀x∈l,∀y,Bo (e x) (e y) (Ca (e x) (e y))):Bo (Fj e l) (Fj e l') (Ca (Fj e l) (Fj e l')):=by
 unfold Fj;by_cases h:l.length=l'.length
 ·exact ((Bo.tok (.i l.length) (.i l'.length)).app (Bo.items e l l' h hc)).self
 ·exact ((Bo.tok (.i l.length) (.i l'.length)).first (by
   intro h0;have:=F0 h0;simp at this;omega)).self
theorem J6:Bw=Fj flat:=rfl
theorem Ob:Ee=Fj fun f=>[.s f.1,.i f.2.1]++flat f.2.2:=rfl
theorem Od:Ef=Fj fun v=>.s v.1 :: Bw v.2:=rfl
theorem S2 (a:Ty):∀b,Bo (flat a) (flat b) (B5 a b):=by
 refine Ty.ind (C:=fun a=>∀b,Bo (flat a) (flat b) (B5 a b)) ?_ a;intro k t n ps fs vs ihp ihf ihv b;obtain⟨k',t',n',ps',fs',vs'⟩:=b;unfold B5;rw[Is,Is];have h3:Bo [.i k,.s t,.i n] [.i k',.s t',.i n'] (Ca [.i k,.s t,.i n] [.i k',.s t',.i n']):=((Bo.tok (.i k) (.i k')).app ((Bo.tok (.s t) (.s t')).app (Bo.tok (.i n) (.i n')))).self;have hp:Bo (Bw ps) (Bw ps') (Ca (Bw ps) (Bw ps')):=by
  rw[J6];exact Bo.rows flat ps ps' fun x hx y=>ihp x hx y
 have hf:Bo (Ee fs) (Ee fs') (Ca (Ee fs) (Ee fs')):=by
  rw[Ob];refine Bo.rows _ fs fs' fun x hx y=>?_;exact (((Bo.tok (.s x.1) (.s y.1)).app (Bo.tok (.i x.2.1) (.i y.2.1))).app (ihf x hx y.2.2)).self
 have hv:Bo (Ef vs) (Ef vs') (Ca (Ef vs) (Ef vs')):=by
  rw[Od];refine Bo.rows _ vs vs' fun x hx y=>?_;exact ((Bo.tok (.s x.1) (.s y.1)).app (Bo.rows flat x.2 y.2 fun b hb y=>ihv x hx b hb y)).self
 exact (h3.app (hp.app (hf.app hv))).self
theorem J1 (a b:Ty):Bo (flat a) (flat b) (Ca (flat a) (flat b)):=S2 a b
theorem Pd (l l':List Ty):Bo (Bw l) (Bw l') (Ca (Bw l) (Bw l')):=Bo.rows flat l l' fun x _ y=>J1 x y
theorem Pc (x y:Z8×Int×Ty):Bo ([Dy.s x.1,.i x.2.1]++flat x.2.2) ([.s y.1,.i y.2.1]++flat y.2.2) (Ca ([.s x.1,.i x.2.1]++flat x.2.2) ([.s y.1,.i y.2.1]++flat y.2.2)):=
 (((Bo.tok (.s x.1) (.s y.1)).app (Bo.tok (.i x.2.1) (.i y.2.1))).app (J1 x.2.2 y.2.2)).self
theorem X8 (l l':Bx):Bo (Ee l) (Ee l') (Ca (Ee l) (Ee l')):=Bo.rows _ l l' fun x _ y=>Pc x y
theorem Pe (x y:Z8×List Ty):Bo (Dy.s x.1 :: Bw x.2) (.s y.1 :: Bw y.2) (Ca (.s x.1 :: Bw x.2) (.s y.1 :: Bw y.2)):=((Bo.tok (.s x.1) (.s y.1)).app (Pd x.2 y.2)).self
theorem X9 (l l':Bt):Bo (Ef l) (Ef l') (Ca (Ef l) (Ef l')):=Bo.rows _ l l' fun x _ y=>Pe x y
theorem G8 (a b:Dy):Ca [a] [b]=D8 a b:=(Bo.tok a b).val
theorem O0 (k t n ps fs vs k' t' n' ps' fs' vs'):B5 (.mk k t n ps fs vs) (.mk k' t' n' ps' fs' vs')=Fw (Dp k k') (Fw (Dv t t') (Fw (Dp n n') (Fw (Ca (Bw ps) (Bw ps')) (Fw (Ca (Ee fs) (Ee fs')) (Ca (Ef vs) (Ef vs')))))):=by
 unfold B5;rw[Is,Is];have e1:([Dy.i k,.s t,.i n]++(Bw ps++(Ee fs++Ef vs)))=[.i k]++([.s t]++([.i n]++(Bw ps++(Ee fs++Ef vs)))):=rfl;have e2:([Dy.i k',.s t',.i n']++(Bw ps'++(Ee fs'++Ef vs')))=[.i k']++([.s t']++([.i n']++(Bw ps'++(Ee fs'++Ef vs')))):=rfl;have c0:=(X8 fs fs').app (X9 vs vs');have c1:=(Pd ps ps').app c0;have c2:=(Bo.tok (.i n) (.i n')).app c1;have c3:=(Bo.tok (.s t) (.s t')).app c2;rw[e1,e2,(Bo.tok (.i k) (.i k')).lex_app c3,(Bo.tok (.s t) (.s t')).lex_app c2,(Bo.tok (.i n) (.i n')).lex_app c1,(Pd ps ps').lex_app c0,(X8 fs fs').lex_app (X9 vs vs'),G8,G8,G8];rfl
theorem Kz (x y:Z8×Int×Ty):Ca ([Dy.s x.1,.i x.2.1]++flat x.2.2) ([.s y.1,.i y.2.1]++flat y.2.2)=Fw (Dv x.1 y.1) (Fw (Dp x.2.1 y.2.1) (B5 x.2.2 y.2.2)):=by
 have e1:([Dy.s x.1,.i x.2.1]++flat x.2.2)=[.s x.1]++([.i x.2.1]++flat x.2.2):=rfl;have e2:([Dy.s y.1,.i y.2.1]++flat y.2.2)=[.s y.1]++([.i y.2.1]++flat y.2.2):=rfl;have c1:=(Bo.tok (.i x.2.1) (.i y.2.1)).app (J1 x.2.2 y.2.2);rw[e1,e2,(Bo.tok (.s x.1) (.s y.1)).lex_app c1,(Bo.tok (.i x.2.1) (.i y.2.1)).lex_app (J1 x.2.2 y.2.2),G8,G8];rfl
theorem O8 (x y:Z8×List Ty):Ca (Dy.s x.1 :: Bw x.2) (.s y.1 :: Bw y.2)=Fw (Dv x.1 y.1) (Ca (Bw x.2) (Bw y.2)):=by
 have e1:(Dy.s x.1 :: Bw x.2)=[.s x.1]++Bw x.2:=rfl;have e2:(Dy.s y.1 :: Bw y.2)=[.s y.1]++Bw y.2:=rfl;rw[e1,e2,(Bo.tok (.s x.1) (.s y.1)).lex_app (Pd x.2 y.2),G8];rfl
def C0 {α:Type} (e:α->List Dy) (l l':List α) (i:Nat):Int:=Ca ((l.drop i).map e).flatten ((l'.drop i).map e).flatten
theorem Iy {α:Type}(e:α->List Dy) {l l':List α}(h:l.length≠l'.length):Ca (Fj e l) (Fj e l')=Dp l.length l'.length:=by
 have hA:D8 (.i l.length) (.i l'.length)≠0:=by
  intro h0;have:=F0 h0;simp at this;omega
 unfold Fj;rw[Ca,if_pos hA];rfl
theorem He {α:Type}(e:α->List Dy) {l l':List α}(h:l.length=l'.length):Ca (Fj e l) (Fj e l')=C0 e l l' 0:=by
 unfold Fj C0;rw[Ca,h,if_neg (by simp[Kv])];rfl
theorem Hc {α:Type}(e:α->List Dy) {l l':List α}(h:l.length=l'.length):C0 e l l' l.length=0:=by
 unfold C0;rw[List.drop_of_length_le (Nat.le_refl _),List.drop_of_length_le (by omega)];rfl
theorem Gh {α:Type}(e:α->List Dy) (hc:∀x y,Bo (e x) (e y) (Ca (e x) (e y))) {l l':List α}(h:l.length=l'.length) {i:Nat}(hi:i<l.length) (hi':i<l'.length):C0 e l l' i=Fw (Ca (e l[i]) (e l'[i])) (C0 e l l' (i+1)):=by
 unfold C0;rw[List.drop_eq_getElem_cons hi,List.drop_eq_getElem_cons hi',List.map_cons,List.map_cons,List.flatten_cons,List.flatten_cons];exact (hc _ _).lex_app (Bo.items e _ _ (by simp;omega) (fun x _ y=>hc x y))
theorem On {α:Type}(e:α->List Dy):∀(l l':List α) (r s:List Dy),l.length=l'.length->(∀x∈l,∀y r s,e x++r=e y++s->x=y/\r=s)->(l.map e).flatten++r=(l'.map e).flatten++s->l=l'/\r=s
 | [],[],_,_,_,_,h=>⟨rfl,by simpa using h⟩
 | [],_ :: _,_,_,h,_,_=>by simp at h
 | _ :: _,[],_,_,h,_,_=>by simp at h
 | a :: l,b :: l',r,s,h,hi,he=>by
  simp only[List.map_cons,List.flatten_cons,List.append_assoc]at he;obtain⟨rfl,h2⟩:=hi a (List.mem_cons_self ..) b _ _ he;obtain⟨rfl,h3⟩:=On e l l' r s (by simpa using h) (fun x hx=>hi x (List.mem_cons_of_mem _ hx)) h2;exact⟨rfl,h3⟩
theorem Lx {α:Type}(e:α->List Dy) (l l':List α) (r s:List Dy) (hi:∀x∈l,∀y r s,e x++r=e y++s->x=y/\r=s) (h:Fj e l++r=Fj e l'++s):l=l'/\r=s:=by
 unfold Fj at h;simp only[List.cons_append,List.cons.injEq,Dy.i.injEq]at h;exact On e l l' r s (by omega) hi h.2
theorem Ym (a:Ty):∀b r s,flat a++r=flat b++s->a=b/\r=s:=by
 refine Ty.ind (C:=fun a=>∀b r s,flat a++r=flat b++s->a=b/\r=s) ?_ a;intro k t n ps fs vs ihp ihf ihv b r s h;obtain⟨k',t',n',ps',fs',vs'⟩:=b;rw[Is,Is]at h;simp only[List.cons_append,List.nil_append,List.cons.injEq,Dy.i.injEq,Dy.s.injEq,List.append_assoc]at h;obtain⟨rfl,rfl,rfl,h⟩:=h;rw[J6,Ob,Od]at h;obtain⟨e1,h1⟩:=Lx flat ps ps' _ _ (fun x hx y r s h=>ihp x hx y r s h) h;obtain⟨e2,h2⟩:=Lx (fun f:Z8×Int×Ty=>[Dy.s f.1,.i f.2.1]++flat f.2.2) fs fs' _ _ (fun x hx y r s h=>by
  obtain⟨a,b,c⟩:=x;obtain⟨a',b',c'⟩:=y;simp only[List.cons_append,List.nil_append,List.cons.injEq,Dy.i.injEq,Dy.s.injEq]at h;obtain⟨rfl,rfl,h⟩:=h;obtain⟨h1,h2⟩:=ihf _ hx c' r s h;subst h1;exact⟨rfl,h2⟩) h1
 obtain⟨e3,h3⟩:=Lx (fun v:Z8×List Ty=>Dy.s v.1 :: Bw v.2) vs vs' _ _ (fun x hx y r s h=>by
  obtain⟨a,l⟩:=x;obtain⟨a',l'⟩:=y;simp only[List.cons_append,List.cons.injEq,Dy.s.injEq]at h;obtain⟨rfl,h⟩:=h;rw[J6]at h;obtain⟨rfl,h2⟩:=Lx flat l l' r s (fun b hb y r s h=>ihv _ hx b hb y r s h) h;exact⟨rfl,h2⟩) h2
 subst e1 e2 e3;exact⟨rfl,h3⟩
theorem C5 {a b:Ty}:B5 a b=0↔a=b:=
 ⟨fun h=>(Ym a b [] [] (by rw[Ou h])).1,fun h=>by rw[h];exact Ot _⟩
theorem Es (a b:Ty):B5 b a = - B5 a b:=Oq _ _
theorem Gb (a b:Ty):B5 a b = -1\/B5 a b=0\/B5 a b=1:=Uz _ _
theorem Fx {a b c:Ty}(h:B5 a b = -1) (h':B5 b c = -1):B5 a c = -1:=Ms h h'
