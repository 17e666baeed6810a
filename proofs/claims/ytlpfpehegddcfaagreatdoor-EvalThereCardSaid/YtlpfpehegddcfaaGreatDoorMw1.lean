import Derived.Test.YtlpfpehegddcfaaGreatDoorMw0
namespace Go.Proofs.YtlpfpehegddcfaaGreatDoor
set_option maxRecDepth 100000
set_option maxHeartbeats 64000000
open Go.RowKit
theorem Aa {w w':World}{p:Addr}{v:Value}(hb:Below w.heap.size w w') (h:w.cell? p=some v):w'.cell? p=some v:=
 (hb.cell (World.block_lt_of_cell? _ _ h)).trans h
theorem C5 {w a b:World}(h:Below w.heap.size w a) (h':Below a.heap.size a b):Below w.heap.size w b:=h.trans (h'.mono h.size)
def Ao (k:Int) (t:Z8) (n:Int) (A:Option Addr) (l c:Nat) (A':Option Addr) (l' c':Nat) (A'':Option Addr) (l'' c'':Nat):List Value:=
 [.int .i64 k,.string t,.int .i64 n,.slice A l c,.slice A' l' c',.slice A'' l'' c'']
structure Fo (K:Nat->Prop) (A:Option Addr) (l c b o:Nat):Prop where
 le:l<=c
 big:l<=1000000000000000
 none:A=none->c=0
 some:0<l->A=some ⟨b,o,Option.none⟩/\K b
inductive An (K:Nat->Prop) (w:World):Ty->List Value->Prop
 | mk (k:Int) (t:Z8) (n:Int) (ps:List Ty) (fs:Bv) (vs:Bw) (A:Option Addr) (c:Nat) (A':Option Addr) (c':Nat) (A'':Option Addr) (c'':Nat)
   (pb po fb fo vb vo:Nat) (pc fc:Nat->List Value) (bA:Nat->Option Addr) (bc bb bo:Nat->Nat) (bcs:Nat->Nat->List Value)
   (ht:t.size<=1000000000000000) (hA:Fo K A ps.length c pb po) (hA':Fo K A' fs.length c' fb fo) (hA'':Fo K A'' vs.length c'' vb vo)
   (pcell:∀i,i<ps.length->∀j u,(pc i)[j]?=some u->w.cell? ⟨pb,po+i*6+j,none⟩=some u)
   (prep:∀i (h:i<ps.length),An K w ps[i] (pc i))
   (fcell:∀i (h:i<fs.length),w.cell? ⟨fb,fo+i*8,none⟩=some (.string fs[i].1)/\w.cell? ⟨fb,fo+i*8+1,none⟩=some (.int .i64 fs[i].2.1)/\fs[i].1.size<=1000000000000000/\∀j u,(fc i)[j]?=some u->w.cell? ⟨fb,fo+i*8+2+j,none⟩=some u)
   (frep:∀i (h:i<fs.length),An K w fs[i].2.2 (fc i))
   (vcell:∀i (h:i<vs.length),w.cell? ⟨vb,vo+i*2,none⟩=some (.string vs[i].1)/\w.cell? ⟨vb,vo+i*2+1,none⟩=some (.slice (bA i) vs[i].2.length (bc i))/\vs[i].1.size<=1000000000000000/\Fo K (bA i) vs[i].2.length (bc i) (bb i) (bo i))
   (bcell:∀i (h:i<vs.length) j,j<vs[i].2.length->∀x u,(bcs i j)[x]?=some u->w.cell? ⟨bb i,bo i+j*6+x,none⟩=some u)
   (brep:∀i (h:i<vs.length) j (h':j<vs[i].2.length),An K w vs[i].2[j] (bcs i j)) :
   An K w (.mk k t n ps fs vs) (Ao k t n A ps.length c A' fs.length c' A'' vs.length c'')
def Dm (K:Nat->Prop) (w:World) (t:Ty) (b o:Nat):Prop:=∃cs,(∀j u,cs[j]?=some u->w.cell? ⟨b,o+j,none⟩=some u)/\An K w t cs
structure Bh (K:Nat->Prop) (w:World) (l:List Ty) (A:Option Addr) (c:Nat):Prop where
 ex:∃b o,Fo K A l.length c b o/\∀i (h:i<l.length),Dm K w l[i] b (o+i*6)
structure Du (K:Nat->Prop) (w:World) (l:Bv) (A:Option Addr) (c:Nat):Prop where
 ex:∃b o,Fo K A l.length c b o/\∀i (h:i<l.length),w.cell? ⟨b,o+i*8,none⟩=some (.string l[i].1)/\w.cell? ⟨b,o+i*8+1,none⟩=some (.int .i64 l[i].2.1)/\l[i].1.size<=1000000000000000/\Dm K w l[i].2.2 b (o+i*8+2)
structure Dd (K:Nat->Prop) (w:World) (l:Bw) (A:Option Addr) (c:Nat):Prop where
 ex:∃b o,Fo K A l.length c b o/\∀i (h:i<l.length),∃B d,w.cell? ⟨b,o+i*2,none⟩=some (.string l[i].1)/\w.cell? ⟨b,o+i*2+1,none⟩=some (.slice B l[i].2.length d)/\l[i].1.size<=1000000000000000/\Bh K w l[i].2 B d
theorem An.inv {K:Nat->Prop}{w:World}{k:Int}{t:Z8}{n:Int}{ps:List Ty}{fs:Bv}{vs:Bw}{cs:List Value}(h:An K w (.mk k t n ps fs vs) cs) :
  ∃A c A' c' A'' c'',cs=Ao k t n A ps.length c A' fs.length c' A'' vs.length c''/\t.size<=1000000000000000/\Bh K w ps A c/\Du K w fs A' c'/\Dd K w vs A'' c'':=by
 cases h with
 | mk _ _ _ _ _ _ A c A' c' A'' c'' pb po fb fo vb vo pc fc bA bc bb bo bcs ht hA hA' hA'' pcell prep fcell frep vcell bcell brep=>
  exact⟨A,c,A',c',A'',c'',rfl,ht,⟨pb,po,hA,fun i h=>⟨pc i,pcell i h,prep i h⟩⟩,⟨fb,fo,hA',fun i h=>⟨(fcell i h).1,(fcell i h).2.1,(fcell i h).2.2.1,fc i,(fcell i h).2.2.2,frep i h⟩⟩,⟨vb,vo,hA'',fun i h=>⟨bA i,bc i,(vcell i h).1,(vcell i h).2.1,(vcell i h).2.2.1,⟨bb i,bo i,(vcell i h).2.2.2,fun j h'=>⟨bcs i j,bcell i h j h',brep i h j h'⟩⟩⟩⟩⟩
theorem An.of {K:Nat->Prop}{w:World}{k:Int}{t:Z8}{n:Int}{ps:List Ty}{fs:Bv}{vs:Bw}{A:Option Addr}{c:Nat}{A':Option Addr}{c':Nat}{A'':Option Addr}{c'':Nat}(ht:t.size<=1000000000000000) (hp:Bh K w ps A c) (hf:Du K w fs A' c') (hv:Dd K w vs A'' c'') :
  An K w (.mk k t n ps fs vs) (Ao k t n A ps.length c A' fs.length c' A'' vs.length c''):=by
 classical
 obtain⟨pb,po,hA,hp⟩:=hp;obtain⟨fb,fo,hA',hf⟩:=hf;obtain⟨vb,vo,hA'',hv⟩:=hv;have hp':∃pc:Nat->List Value,∀i (h:i<ps.length),(∀j u,(pc i)[j]?=some u->w.cell? ⟨pb,po+i*6+j,none⟩=some u)/\An K w ps[i] (pc i):=
  ⟨fun i=>if h:i<ps.length then (hp i h).choose else [],fun i h=>by simp only[dif_pos h];exact (hp i h).choose_spec⟩
 obtain⟨pc,hD⟩:=hp';have hf':∃fc:Nat->List Value,∀i (h:i<fs.length),(∀j u,(fc i)[j]?=some u->w.cell? ⟨fb,fo+i*8+2+j,none⟩=some u)/\An K w fs[i].2.2 (fc i):=
  ⟨fun i=>if h:i<fs.length then (hf i h).2.2.2.choose else [],fun i h=>by simp only[dif_pos h];exact (hf i h).2.2.2.choose_spec⟩
 obtain⟨fc,hC⟩:=hf';have hv':∃(bA:Nat->Option Addr) (bc bb bo:Nat->Nat) (bcs:Nat->Nat->List Value),∀i (h:i<vs.length),w.cell? ⟨vb,vo+i*2,none⟩=some (.string vs[i].1)/\w.cell? ⟨vb,vo+i*2+1,none⟩=some (.slice (bA i) vs[i].2.length (bc i))/\vs[i].1.size<=1000000000000000/\Fo K (bA i) vs[i].2.length (bc i) (bb i) (bo i)/\∀j (h':j<vs[i].2.length),(∀x u,(bcs i j)[x]?=some u->w.cell? ⟨bb i,bo i+j*6+x,none⟩=some u)/\An K w vs[i].2[j] (bcs i j):=by
  have one:∀i (h:i<vs.length),∃(q:Option Addr×Nat×Nat×Nat×(Nat->List Value)),w.cell? ⟨vb,vo+i*2,none⟩=some (.string vs[i].1)/\w.cell? ⟨vb,vo+i*2+1,none⟩=some (.slice q.1 vs[i].2.length q.2.1)/\vs[i].1.size<=1000000000000000/\Fo K q.1 vs[i].2.length q.2.1 q.2.2.1 q.2.2.2.1/\∀j (h':j<vs[i].2.length),(∀x u,(q.2.2.2.2 j)[x]?=some u->w.cell? ⟨q.2.2.1,q.2.2.2.1+j*6+x,none⟩=some u)/\An K w vs[i].2[j] (q.2.2.2.2 j):=by
   intro i h;obtain⟨B,d,h1,h2,h3,⟨b,o,h4,h5⟩⟩:=hv i h;exact⟨⟨B,d,b,o,fun j=>if h':j<vs[i].2.length then (h5 j h').choose else []⟩,h1,h2,h3,h4,fun j h'=>by simp only[dif_pos h'];exact (h5 j h').choose_spec⟩
  exact⟨fun i=>if h:i<vs.length then (one i h).choose.1 else none,fun i=>if h:i<vs.length then (one i h).choose.2.1 else 0,fun i=>if h:i<vs.length then (one i h).choose.2.2.1 else 0,fun i=>if h:i<vs.length then (one i h).choose.2.2.2.1 else 0,fun i=>if h:i<vs.length then (one i h).choose.2.2.2.2 else fun _=>[],fun i h=>by simp only[dif_pos h];exact (one i h).choose_spec⟩
 obtain⟨bA,bc,bb,bo,bcs,hB⟩:=hv';exact An.mk k t n ps fs vs A c A' c' A'' c'' pb po fb fo vb vo pc fc bA bc bb bo bcs ht hA hA' hA'' (fun i h=>(hD i h).1) (fun i h=>(hD i h).2) (fun i h=>⟨(hf i h).1,(hf i h).2.1,(hf i h).2.2.1,(hC i h).1⟩) (fun i h=>(hC i h).2)
  (fun i h=>⟨(hB i h).1,(hB i h).2.1,(hB i h).2.2.1,(hB i h).2.2.2.1⟩) (fun i h j h'=>((hB i h).2.2.2.2 j h').1) (fun i h j h'=>((hB i h).2.2.2.2 j h').2)
theorem Fo.weak {K K':Nat->Prop}(hk:∀b,K b->K' b) {A:Option Addr}{l c b o:Nat}(h:Fo K A l c b o):Fo K' A l c b o:=⟨h.le,h.big,h.none,fun hl=>⟨(h.some hl).1,hk _ (h.some hl).2⟩⟩
theorem An.keep {K K':Nat->Prop}{w w':World}(hK:∀b,K b->K' b) (hk:∀b o v,K b->w.cell? ⟨b,o,none⟩=some v->w'.cell? ⟨b,o,none⟩=some v) (t:Ty):∀cs,An K w t cs->An K' w' t cs:=by
 refine Ty.ind (C:=fun t=>∀cs,An K w t cs->An K' w' t cs) ?_ t;intro k t n ps fs vs ihp ihf ihv cs h;obtain⟨A,c,A',c',A'',c'',rfl,ht,⟨pb,po,hA,hp⟩,⟨fb,fo,hA',hf⟩,⟨vb,vo,hA'',hv⟩⟩:=h.inv;refine An.of ht ⟨pb,po,hA.weak hK,fun i h=>?_⟩ ⟨fb,fo,hA'.weak hK,fun i h=>?_⟩ ⟨vb,vo,hA''.weak hK,fun i h=>?_⟩
 ·obtain⟨cs,h1,h2⟩:=hp i h;have hb:=(hA.some (by omega)).2;exact⟨cs,fun j u hj=>hk _ _ _ hb (h1 j u hj),ihp _ (List.getElem_mem h) cs h2⟩
 ·obtain⟨h1,h2,h3,cs,h4,h5⟩:=hf i h;have hb:=(hA'.some (by omega)).2;exact⟨hk _ _ _ hb h1,hk _ _ _ hb h2,h3,cs,fun j u hj=>hk _ _ _ hb (h4 j u hj),ihf _ (List.getElem_mem h) cs h5⟩
 ·obtain⟨B,d,h1,h2,h3,⟨b,o,h4,h5⟩⟩:=hv i h;have hb:=(hA''.some (by omega)).2;refine⟨B,d,hk _ _ _ hb h1,hk _ _ _ hb h2,h3,⟨b,o,h4.weak hK,fun j h'=>?_⟩⟩;obtain⟨cs,h6,h7⟩:=h5 j h';have hb:=(h4.some (by omega)).2;exact⟨cs,fun x u hx=>hk _ _ _ hb (h6 x u hx),ihv _ (List.getElem_mem h) _ (List.getElem_mem h') cs h7⟩
theorem Dm.keep {K K':Nat->Prop}{w w':World}{t:Ty}{b o:Nat}(h:Dm K w t b o) (hK:∀b,K b->K' b) (hk:∀b o v,K b->w.cell? ⟨b,o,none⟩=some v->w'.cell? ⟨b,o,none⟩=some v) (hb:∀o v,w.cell? ⟨b,o,none⟩=some v->w'.cell? ⟨b,o,none⟩=some v):Dm K' w' t b o:=by
 obtain⟨cs,h1,h2⟩:=h;exact⟨cs,fun j u hj=>hb _ _ (h1 j u hj),An.keep hK hk t cs h2⟩
theorem An.later {K:Nat->Prop}{w w':World}{t:Ty}{cs:List Value}(h:An K w t cs) (hb:Below w.heap.size w w'):An K w' t cs:=An.keep (fun _ h=>h) (fun _ _ _ _ h=>Aa hb h) t cs h
theorem Dm.later {K:Nat->Prop}{w w':World}{t:Ty}{b o:Nat}(h:Dm K w t b o) (hb:Below w.heap.size w w'):Dm K w' t b o:=h.keep (fun _ h=>h) (fun _ _ _ _ h=>Aa hb h) (fun _ _ h=>Aa hb h)
theorem Bh.later {K:Nat->Prop}{w w':World}{l:List Ty}{A:Option Addr}{c:Nat}(h:Bh K w l A c) (hb:Below w.heap.size w w'):Bh K w' l A c:=by
 obtain⟨b,o,h1,h2⟩:=h;exact⟨b,o,h1,fun i hi=>(h2 i hi).later hb⟩
theorem Du.later {K:Nat->Prop}{w w':World}{l:Bv}{A:Option Addr}{c:Nat}(h:Du K w l A c) (hb:Below w.heap.size w w'):Du K w' l A c:=by
 obtain⟨b,o,h1,h2⟩:=h;exact⟨b,o,h1,fun i hi=>⟨Aa hb (h2 i hi).1,Aa hb (h2 i hi).2.1,(h2 i hi).2.2.1,(h2 i hi).2.2.2.later hb⟩⟩
theorem Dd.later {K:Nat->Prop}{w w':World}{l:Bw}{A:Option Addr}{c:Nat}(h:Dd K w l A c) (hb:Below w.heap.size w w'):Dd K w' l A c:=by
 obtain⟨b,o,h1,h2⟩:=h;refine⟨b,o,h1,fun i hi=>?_⟩;obtain⟨B,d,h3,h4,h5,h6⟩:=h2 i hi;exact⟨B,d,Aa hb h3,Aa hb h4,h5,h6.later hb⟩
theorem Dm.six {K:Nat->Prop}{w:World}{k:Int}{t:Z8}{n:Int}{ps:List Ty}{fs:Bv}{vs:Bw}{b o:Nat}(h:Dm K w (.mk k t n ps fs vs) b o) :
  ∃A c A' c' A'' c'',(w.cell? ⟨b,o,none⟩=some (.int .i64 k)/\w.cell? ⟨b,o+1,none⟩=some (.string t)/\w.cell? ⟨b,o+2,none⟩=some (.int .i64 n)/\w.cell? ⟨b,o+3,none⟩=some (.slice A ps.length c)/\w.cell? ⟨b,o+4,none⟩=some (.slice A' fs.length c')/\w.cell? ⟨b,o+5,none⟩=some (.slice A'' vs.length c''))/\t.size<=1000000000000000/\Bh K w ps A c/\Du K w fs A' c'/\Dd K w vs A'' c'':=by
 obtain⟨cs,h1,h2⟩:=h;obtain⟨A,c,A',c',A'',c'',rfl,h3⟩:=h2.inv;exact⟨A,c,A',c',A'',c'',⟨h1 0 _ rfl,h1 1 _ rfl,h1 2 _ rfl,h1 3 _ rfl,h1 4 _ rfl,h1 5 _ rfl⟩,h3⟩
theorem Dm.box {K:Nat->Prop}{w:World}{t:Ty}{cs:List Value}(T:TypeId) (h:An K w t cs):Dm K (w.alloc (.cells cs.toArray T)) t w.heap.size 0:=by
 refine⟨cs,fun j u hj=>?_,h.later ((Below.refl _ _).alloc (Nat.le_refl _) _)⟩;rw[cell_of_row _ _ _ _ _ _ (heap_alloc_new w _),Nat.zero_add];simpa using hj
theorem Bh.at {K:Nat->Prop}{w:World}{l:List Ty}{A:Option Addr}{c:Nat}(h:Bh K w l A c) (h0:0<l.length):∃b o,A=some ⟨b,o,none⟩/\K b/\∀i (h:i<l.length),Dm K w l[i] b (o+i*6):=by
 obtain⟨b,o,h1,h2⟩:=h;exact⟨b,o,(h1.some h0).1,(h1.some h0).2,h2⟩
theorem Du.at {K:Nat->Prop}{w:World}{l:Bv}{A:Option Addr}{c:Nat}(h:Du K w l A c) (h0:0<l.length):∃b o,A=some ⟨b,o,none⟩/\K b/\∀i (h:i<l.length),w.cell? ⟨b,o+i*8,none⟩=some (.string l[i].1)/\w.cell? ⟨b,o+i*8+1,none⟩=some (.int .i64 l[i].2.1)/\l[i].1.size<=1000000000000000/\Dm K w l[i].2.2 b (o+i*8+2):=by
 obtain⟨b,o,h1,h2⟩:=h;exact⟨b,o,(h1.some h0).1,(h1.some h0).2,h2⟩
theorem Dd.at {K:Nat->Prop}{w:World}{l:Bw}{A:Option Addr}{c:Nat}(h:Dd K w l A c) (h0:0<l.length):∃b o,A=some ⟨b,o,none⟩/\K b/\∀i (h:i<l.length),∃B d,w.cell? ⟨b,o+i*2,none⟩=some (.string l[i].1)/\w.cell? ⟨b,o+i*2+1,none⟩=some (.slice B l[i].2.length d)/\l[i].1.size<=1000000000000000/\Bh K w l[i].2 B d:=by
 obtain⟨b,o,h1,h2⟩:=h;exact⟨b,o,(h1.some h0).1,(h1.some h0).2,h2⟩
def F2 (a b:Int):Int:=if a≠0 then a else b
theorem Bo (b:Int):F2 0 b=b:=by simp[F2]
theorem Dv {a:Int}(h:a≠0) (b:Int):F2 a b=a:=by simp[F2,h]
theorem Bs.self {x y:List D4}{c:Int}(h:Bs x y c):Bs x y (Cb x y):=h.to h.val.symm
theorem Bs.lex_app {x y x' y':List D4}{c c':Int}(h:Bs x y c) (h':Bs x' y' c'):Cb (x++x') (y++y')=F2 (Cb x y) (Cb x' y'):=by
 rw[(h.app h').val,h.val,h'.val];rfl
theorem Bs.items {α:Type}(e:α->List D4):∀(l l':List α),l.length=l'.length->(∀x∈l,∀y,Bs (e x) (e y) (Cb (e x) (e y)))->Bs (l.map e).flatten (l'.map e).flatten (Cb (l.map e).flatten (l'.map e).flatten)
 | [],[],_,_=>Bs.nil.self
 | [],_ :: _,h,_=>by simp at h
 | _ :: _,[],h,_=>by simp at h
 | a :: l,b :: l',h,hc=>by
  simp only[List.map_cons,List.flatten_cons];exact ((hc a (List.mem_cons_self ..) b).app (Bs.items e l l' (by simpa using h) (fun x hx=>hc x (List.mem_cons_of_mem _ hx)))).self
def Fx {α:Type} (e:α->List D4) (l:List α):List D4:=.i l.length :: (l.map e).flatten
theorem Bs.rows {α:Type}(e:α->List D4) (l l':List α) (hc:∀x∈l,∀y,Bs (e x) (e y) (Cb (e x) (e y))):Bs (Fx e l) (Fx e l') (Cb (Fx e l) (Fx e l')):=by
 unfold Fx;by_cases h:l.length=l'.length
 ·exact ((Bs.tok (.i l.length) (.i l'.length)).app (Bs.items e l l' h hc)).self
 ·exact ((Bs.tok (.i l.length) (.i l'.length)).first (by
   intro h0;have:=Gd h0;simp at this;omega)).self
theorem Lf:Bz=Fx flat:=rfl
theorem Po:Ea=Fx fun f=>[.s f.1,.i f.2.1]++flat f.2.2:=rfl
theorem Pq:Eb=Fx fun v=>.s v.1 :: Bz v.2:=rfl
theorem Ub (a:Ty):∀b,Bs (flat a) (flat b) (B6 a b):=by
 refine Ty.ind (C:=fun a=>∀b,Bs (flat a) (flat b) (B6 a b)) ?_ a;intro k t n ps fs vs ihp ihf ihv b;obtain⟨k',t',n',ps',fs',vs'⟩:=b;unfold B6;rw[Jc,Jc];have h3:Bs [.i k,.s t,.i n] [.i k',.s t',.i n'] (Cb [.i k,.s t,.i n] [.i k',.s t',.i n']):=((Bs.tok (.i k) (.i k')).app ((Bs.tok (.s t) (.s t')).app (Bs.tok (.i n) (.i n')))).self;have hp:Bs (Bz ps) (Bz ps') (Cb (Bz ps) (Bz ps')):=by
  rw[Lf];exact Bs.rows flat ps ps' fun x hx y=>ihp x hx y
 have hf:Bs (Ea fs) (Ea fs') (Cb (Ea fs) (Ea fs')):=by
  rw[Po];refine Bs.rows _ fs fs' fun x hx y=>?_;exact (((Bs.tok (.s x.1) (.s y.1)).app (Bs.tok (.i x.2.1) (.i y.2.1))).app (ihf x hx y.2.2)).self
 have hv:Bs (Eb vs) (Eb vs') (Cb (Eb vs) (Eb vs')):=by
  rw[Pq];refine Bs.rows _ vs vs' fun x hx y=>?_;exact ((Bs.tok (.s x.1) (.s y.1)).app (Bs.rows flat x.2 y.2 fun b hb y=>ihv x hx b hb y)).self
 exact (h3.app (hp.app (hf.app hv))).self
theorem La (a b:Ty):Bs (flat a) (flat b) (Cb (flat a) (flat b)):=Ub a b
theorem Qg (l l':List Ty):Bs (Bz l) (Bz l') (Cb (Bz l) (Bz l')):=Bs.rows flat l l' fun x _ y=>La x y
theorem Qf (x y:Z8×Int×Ty):Bs ([D4.s x.1,.i x.2.1]++flat x.2.2) ([.s y.1,.i y.2.1]++flat y.2.2) (Cb ([.s x.1,.i x.2.1]++flat x.2.2) ([.s y.1,.i y.2.1]++flat y.2.2)):=
 (((Bs.tok (.s x.1) (.s y.1)).app (Bs.tok (.i x.2.1) (.i y.2.1))).app (La x.2.2 y.2.2)).self
theorem Zz (l l':Bv):Bs (Ea l) (Ea l') (Cb (Ea l) (Ea l')):=Bs.rows _ l l' fun x _ y=>Qf x y
theorem Qh (x y:Z8×List Ty):Bs (D4.s x.1 :: Bz x.2) (.s y.1 :: Bz y.2) (Cb (.s x.1 :: Bz x.2) (.s y.1 :: Bz y.2)):=((Bs.tok (.s x.1) (.s y.1)).app (Qg x.2 y.2)).self
theorem Z3 (l l':Bw):Bs (Eb l) (Eb l') (Cb (Eb l) (Eb l')):=Bs.rows _ l l' fun x _ y=>Qh x y
theorem Ho (a b:D4):Cb [a] [b]=Eg a b:=(Bs.tok a b).val
theorem Ln (k t n ps fs vs k' t' n' ps' fs' vs'):B6 (.mk k t n ps fs vs) (.mk k' t' n' ps' fs' vs')=F2 (Dr k k') (F2 (Dt t t') (F2 (Dr n n') (F2 (Cb (Bz ps) (Bz ps')) (F2 (Cb (Ea fs) (Ea fs')) (Cb (Eb vs) (Eb vs')))))):=by
 unfold B6;rw[Jc,Jc];have e1:([D4.i k,.s t,.i n]++(Bz ps++(Ea fs++Eb vs)))=[.i k]++([.s t]++([.i n]++(Bz ps++(Ea fs++Eb vs)))):=rfl;have e2:([D4.i k',.s t',.i n']++(Bz ps'++(Ea fs'++Eb vs')))=[.i k']++([.s t']++([.i n']++(Bz ps'++(Ea fs'++Eb vs')))):=rfl;have c0:=(Zz fs fs').app (Z3 vs vs');have c1:=(Qg ps ps').app c0;have c2:=(Bs.tok (.i n) (.i n')).app c1;have c3:=(Bs.tok (.s t) (.s t')).app c2;rw[e1,e2,(Bs.tok (.i k) (.i k')).lex_app c3,(Bs.tok (.s t) (.s t')).lex_app c2,(Bs.tok (.i n) (.i n')).lex_app c1,(Qg ps ps').lex_app c0,(Zz fs fs').lex_app (Z3 vs vs'),Ho,Ho,Ho];rfl
theorem Ma (x y:Z8×Int×Ty):Cb ([D4.s x.1,.i x.2.1]++flat x.2.2) ([.s y.1,.i y.2.1]++flat y.2.2)=F2 (Dt x.1 y.1) (F2 (Dr x.2.1 y.2.1) (B6 x.2.2 y.2.2)):=by
 have e1:([D4.s x.1,.i x.2.1]++flat x.2.2)=[.s x.1]++([.i x.2.1]++flat x.2.2):=rfl;have e2:([D4.s y.1,.i y.2.1]++flat y.2.2)=[.s y.1]++([.i y.2.1]++flat y.2.2):=rfl;have c1:=(Bs.tok (.i x.2.1) (.i y.2.1)).app (La x.2.2 y.2.2);rw[e1,e2,(Bs.tok (.s x.1) (.s y.1)).lex_app c1,(Bs.tok (.i x.2.1) (.i y.2.1)).lex_app (La x.2.2 y.2.2),Ho,Ho];rfl
theorem Qc (x y:Z8×List Ty):Cb (D4.s x.1 :: Bz x.2) (.s y.1 :: Bz y.2)=F2 (Dt x.1 y.1) (Cb (Bz x.2) (Bz y.2)):=by
 have e1:(D4.s x.1 :: Bz x.2)=[.s x.1]++Bz x.2:=rfl;have e2:(D4.s y.1 :: Bz y.2)=[.s y.1]++Bz y.2:=rfl;rw[e1,e2,(Bs.tok (.s x.1) (.s y.1)).lex_app (Qg x.2 y.2),Ho];rfl
def Dc {α:Type} (e:α->List D4) (l l':List α) (i:Nat):Int:=Cb ((l.drop i).map e).flatten ((l'.drop i).map e).flatten
theorem Jo {α:Type}(e:α->List D4) {l l':List α}(h:l.length≠l'.length):Cb (Fx e l) (Fx e l')=Dr l.length l'.length:=by
 have hA:Eg (.i l.length) (.i l'.length)≠0:=by
  intro h0;have:=Gd h0;simp at this;omega
 unfold Fx;rw[Cb,if_pos hA];rfl
theorem Ht {α:Type}(e:α->List D4) {l l':List α}(h:l.length=l'.length):Cb (Fx e l) (Fx e l')=Dc e l l' 0:=by
 unfold Fx Dc;rw[Cb,h,if_neg (by simp[L7])];rfl
theorem Hs {α:Type}(e:α->List D4) {l l':List α}(h:l.length=l'.length):Dc e l l' l.length=0:=by
 unfold Dc;rw[List.drop_of_length_le (Nat.le_refl _),List.drop_of_length_le (by omega)];rfl
theorem Gt {α:Type}(e:α->List D4) (hc:∀x y,Bs (e x) (e y) (Cb (e x) (e y))) {l l':List α}(h:l.length=l'.length) {i:Nat}(hi:i<l.length) (hi':i<l'.length):Dc e l l' i=F2 (Cb (e l[i]) (e l'[i])) (Dc e l l' (i+1)):=by
 unfold Dc;rw[List.drop_eq_getElem_cons hi,List.drop_eq_getElem_cons hi',List.map_cons,List.map_cons,List.flatten_cons,List.flatten_cons];exact (hc _ _).lex_app (Bs.items e _ _ (by simp;omega) (fun x _ y=>hc x y))
theorem Pv {α:Type}(e:α->List D4):∀(l l':List α) (r s:List D4),l.length=l'.length->(∀x∈l,∀y r s,e x++r=e y++s->x=y/\r=s)->(l.map e).flatten++r=(l'.map e).flatten++s->l=l'/\r=s
 | [],[],_,_,_,_,h=>⟨rfl,by simpa using h⟩
 | [],_ :: _,_,_,h,_,_=>by simp at h
 | _ :: _,[],_,_,h,_,_=>by simp at h
 | a :: l,b :: l',r,s,h,hi,he=>by
  simp only[List.map_cons,List.flatten_cons,List.append_assoc]at he;obtain⟨rfl,h2⟩:=hi a (List.mem_cons_self ..) b _ _ he;obtain⟨rfl,h3⟩:=Pv e l l' r s (by simpa using h) (fun x hx=>hi x (List.mem_cons_of_mem _ hx)) h2;exact⟨rfl,h3⟩
theorem Nb {α:Type}(e:α->List D4) (l l':List α) (r s:List D4) (hi:∀x∈l,∀y r s,e x++r=e y++s->x=y/\r=s) (h:Fx e l++r=Fx e l'++s):l=l'/\r=s:=by
 unfold Fx at h;simp only[List.cons_append,List.cons.injEq,D4.i.injEq]at h;exact Pv e l l' r s (by omega) hi h.2
theorem η (a:Ty):∀b r s,flat a++r=flat b++s->a=b/\r=s:=by
 refine Ty.ind (C:=fun a=>∀b r s,flat a++r=flat b++s->a=b/\r=s) ?_ a;intro k t n ps fs vs ihp ihf ihv b r s h;obtain⟨k',t',n',ps',fs',vs'⟩:=b;rw[Jc,Jc]at h;simp only[List.cons_append,List.nil_append,List.cons.injEq,D4.i.injEq,D4.s.injEq,List.append_assoc]at h;obtain⟨rfl,rfl,rfl,h⟩:=h;rw[Lf,Po,Pq]at h;obtain⟨e1,h1⟩:=Nb flat ps ps' _ _ (fun x hx y r s h=>ihp x hx y r s h) h;obtain⟨e2,h2⟩:=Nb (fun f:Z8×Int×Ty=>[D4.s f.1,.i f.2.1]++flat f.2.2) fs fs' _ _ (fun x hx y r s h=>by
  obtain⟨a,b,c⟩:=x;obtain⟨a',b',c'⟩:=y;simp only[List.cons_append,List.nil_append,List.cons.injEq,D4.i.injEq,D4.s.injEq]at h;obtain⟨rfl,rfl,h⟩:=h;obtain⟨h1,h2⟩:=ihf _ hx c' r s h;subst h1;exact⟨rfl,h2⟩) h1
 obtain⟨e3,h3⟩:=Nb (fun v:Z8×List Ty=>D4.s v.1 :: Bz v.2) vs vs' _ _ (fun x hx y r s h=>by
  obtain⟨a,l⟩:=x;obtain⟨a',l'⟩:=y;simp only[List.cons_append,List.cons.injEq,D4.s.injEq]at h;obtain⟨rfl,h⟩:=h;rw[Lf]at h;obtain⟨rfl,h2⟩:=Nb flat l l' r s (fun b hb y r s h=>ihv _ hx b hb y r s h) h;exact⟨rfl,h2⟩) h2
 subst e1 e2 e3;exact⟨rfl,h3⟩
theorem Dl {a b:Ty}:B6 a b=0↔a=b:=
 ⟨fun h=>(η a b [] [] (by rw[P0 h])).1,fun h=>by rw[h];exact Pz _⟩
theorem Ez (a b:Ty):B6 b a = - B6 a b:=Py _ _
theorem Gq (a b:Ty):B6 a b = -1\/B6 a b=0\/B6 a b=1:=Wb _ _
theorem Ga {a b c:Ty}(h:B6 a b = -1) (h':B6 b c = -1):B6 a c = -1:=N5 h h'
