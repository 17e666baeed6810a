import Derived.Test.YtlpfpehegddcfaaGreatDoorMv0
namespace Go.Proofs.YtlpfpehegddcfaaGreatDoor
set_option maxRecDepth 100000
set_option maxHeartbeats 64000000
open Go.RowKit
theorem Aa {w w':World} {p:Addr} {v:Value} (hb:Below w.heap.size w w') (h:w.cell? p=some v):w'.cell? p=some v:=
 (hb.cell (World.block_lt_of_cell? _ _ h)).trans h
theorem Cp {w a b:World} (h:Below w.heap.size w a) (h':Below a.heap.size a b):Below w.heap.size w b:=h.trans (h'.mono h.size)
def Ar (k:Int) (t:ByteArray) (n:Int) (A:Option Addr) (l c:Nat) (A':Option Addr) (l' c':Nat) (A'':Option Addr) (l'' c'':Nat):List Value:=
 [.int .i64 k,.string t,.int .i64 n,.slice A l c,.slice A' l' c',.slice A'' l'' c'']
structure RowAt (K:Nat->Prop) (A:Option Addr) (l c b o:Nat):Prop where
 le:l<=c
 big:l<=1000000000000000
 none:A=none->c=0
 some:0<l->A=some ⟨b,o,Option.none⟩/\K b
inductive RepT (K:Nat->Prop) (w:World):Ty->List Value->Prop
 | mk (k:Int) (t:ByteArray) (n:Int) (ps:List Ty) (fs:Bp) (vs:Bm) (A:Option Addr) (c:Nat) (A':Option Addr) (c':Nat) (A'':Option Addr) (c'':Nat)
   (pb po fb fo vb vo:Nat) (pc fc:Nat->List Value) (bA:Nat->Option Addr) (bc bb bo:Nat->Nat) (bcs:Nat->Nat->List Value)
   (ht:t.size<=1000000000000000) (hA:RowAt K A ps.length c pb po) (hA':RowAt K A' fs.length c' fb fo) (hA'':RowAt K A'' vs.length c'' vb vo)
   (pcell:∀ i,i<ps.length->∀ j u,(pc i)[j]?=some u->w.cell? ⟨pb,po+i*6+j,none⟩=some u)
   (prep:∀ i (h:i<ps.length),RepT K w ps[i] (pc i))
   (fcell:∀ i (h:i<fs.length),w.cell? ⟨fb,fo+i*8,none⟩=some (.string fs[i].1)/\w.cell? ⟨fb,fo+i*8+1,none⟩=some (.int .i64 fs[i].2.1)/\fs[i].1.size<=1000000000000000/\∀ j u,(fc i)[j]?=some u->w.cell? ⟨fb,fo+i*8+2+j,none⟩=some u)
   (frep:∀ i (h:i<fs.length),RepT K w fs[i].2.2 (fc i))
   (vcell:∀ i (h:i<vs.length),w.cell? ⟨vb,vo+i*2,none⟩=some (.string vs[i].1)/\w.cell? ⟨vb,vo+i*2+1,none⟩=some (.slice (bA i) vs[i].2.length (bc i))/\vs[i].1.size<=1000000000000000/\RowAt K (bA i) vs[i].2.length (bc i) (bb i) (bo i))
   (bcell:∀ i (h:i<vs.length) j,j<vs[i].2.length->∀ x u,(bcs i j)[x]?=some u->w.cell? ⟨bb i,bo i+j*6+x,none⟩=some u)
   (brep:∀ i (h:i<vs.length) j (h':j<vs[i].2.length),RepT K w vs[i].2[j] (bcs i j)) :
   RepT K w (.mk k t n ps fs vs) (Ar k t n A ps.length c A' fs.length c' A'' vs.length c'')
def AtT (K:Nat->Prop) (w:World) (t:Ty) (b o:Nat):Prop:=∃ cs,(∀ j u,cs[j]?=some u->w.cell? ⟨b,o+j,none⟩=some u)/\RepT K w t cs
structure ListT (K:Nat->Prop) (w:World) (l:List Ty) (A:Option Addr) (c:Nat):Prop where
 ex:∃ b o,RowAt K A l.length c b o/\∀ i (h:i<l.length),AtT K w l[i] b (o+i*6)
structure ListF (K:Nat->Prop) (w:World) (l:Bp) (A:Option Addr) (c:Nat):Prop where
 ex:∃ b o,RowAt K A l.length c b o/\∀ i (h:i<l.length),w.cell? ⟨b,o+i*8,none⟩=some (.string l[i].1)/\w.cell? ⟨b,o+i*8+1,none⟩=some (.int .i64 l[i].2.1)/\l[i].1.size<=1000000000000000/\AtT K w l[i].2.2 b (o+i*8+2)
structure ListV (K:Nat->Prop) (w:World) (l:Bm) (A:Option Addr) (c:Nat):Prop where
 ex:∃ b o,RowAt K A l.length c b o/\∀ i (h:i<l.length),∃ B d,w.cell? ⟨b,o+i*2,none⟩=some (.string l[i].1)/\w.cell? ⟨b,o+i*2+1,none⟩=some (.slice B l[i].2.length d)/\l[i].1.size<=1000000000000000/\ListT K w l[i].2 B d
theorem RepT.inv {K:Nat->Prop} {w:World} {k:Int} {t:ByteArray} {n:Int} {ps:List Ty} {fs:Bp} {vs:Bm} {cs:List Value} (h:RepT K w (.mk k t n ps fs vs) cs) :
  ∃ A c A' c' A'' c'',cs=Ar k t n A ps.length c A' fs.length c' A'' vs.length c''/\t.size<=1000000000000000/\ListT K w ps A c/\ListF K w fs A' c'/\ListV K w vs A'' c'':=by
 cases h with
 | mk _ _ _ _ _ _ A c A' c' A'' c'' pb po fb fo vb vo pc fc bA bc bb bo bcs ht hA hA' hA'' pcell prep fcell frep vcell bcell brep=>
  exact⟨A,c,A',c',A'',c'',rfl,ht,⟨pb,po,hA,fun i h=>⟨pc i,pcell i h,prep i h⟩⟩,⟨fb,fo,hA',fun i h=>⟨(fcell i h).1,(fcell i h).2.1,(fcell i h).2.2.1,fc i,(fcell i h).2.2.2,frep i h⟩⟩,⟨vb,vo,hA'',fun i h=>⟨bA i,bc i,(vcell i h).1,(vcell i h).2.1,(vcell i h).2.2.1,⟨bb i,bo i,(vcell i h).2.2.2,fun j h'=>⟨bcs i j,bcell i h j h',brep i h j h'⟩⟩⟩⟩⟩
theorem RepT.of {K:Nat->Prop} {w:World} {k:Int} {t:ByteArray} {n:Int} {ps:List Ty} {fs:Bp} {vs:Bm} {A:Option Addr} {c:Nat} {A':Option Addr} {c':Nat} {A'':Option Addr} {c'':Nat} (ht:t.size<=1000000000000000) (hp:ListT K w ps A c) (hf:ListF K w fs A' c') (hv:ListV K w vs A'' c'') :
  RepT K w (.mk k t n ps fs vs) (Ar k t n A ps.length c A' fs.length c' A'' vs.length c''):=by
 classical
 obtain⟨pb,po,hA,hp⟩:=hp;obtain⟨fb,fo,hA',hf⟩:=hf;obtain⟨vb,vo,hA'',hv⟩:=hv;have hp':∃ pc:Nat->List Value,∀ i (h:i<ps.length),(∀ j u,(pc i)[j]?=some u->w.cell? ⟨pb,po+i*6+j,none⟩=some u)/\RepT K w ps[i] (pc i):=
  ⟨fun i=>if h:i<ps.length then (hp i h).choose else [],fun i h=>by simp only[dif_pos h];exact (hp i h).choose_spec⟩
 obtain⟨pc,hpc⟩:=hp';have hf':∃ fc:Nat->List Value,∀ i (h:i<fs.length),(∀ j u,(fc i)[j]?=some u->w.cell? ⟨fb,fo+i*8+2+j,none⟩=some u)/\RepT K w fs[i].2.2 (fc i):=
  ⟨fun i=>if h:i<fs.length then (hf i h).2.2.2.choose else [],fun i h=>by simp only[dif_pos h];exact (hf i h).2.2.2.choose_spec⟩
 obtain⟨fc,hfc⟩:=hf';have hv':∃ (bA:Nat->Option Addr) (bc bb bo:Nat->Nat) (bcs:Nat->Nat->List Value),∀ i (h:i<vs.length),w.cell? ⟨vb,vo+i*2,none⟩=some (.string vs[i].1)/\w.cell? ⟨vb,vo+i*2+1,none⟩=some (.slice (bA i) vs[i].2.length (bc i))/\vs[i].1.size<=1000000000000000/\RowAt K (bA i) vs[i].2.length (bc i) (bb i) (bo i)/\∀ j (h':j<vs[i].2.length),(∀ x u,(bcs i j)[x]?=some u->w.cell? ⟨bb i,bo i+j*6+x,none⟩=some u)/\RepT K w vs[i].2[j] (bcs i j):=by
  have one:∀ i (h:i<vs.length),∃ (q:Option Addr×Nat×Nat×Nat×(Nat->List Value)),w.cell? ⟨vb,vo+i*2,none⟩=some (.string vs[i].1)/\w.cell? ⟨vb,vo+i*2+1,none⟩=some (.slice q.1 vs[i].2.length q.2.1)/\vs[i].1.size<=1000000000000000/\RowAt K q.1 vs[i].2.length q.2.1 q.2.2.1 q.2.2.2.1/\∀ j (h':j<vs[i].2.length),(∀ x u,(q.2.2.2.2 j)[x]?=some u->w.cell? ⟨q.2.2.1,q.2.2.2.1+j*6+x,none⟩=some u)/\RepT K w vs[i].2[j] (q.2.2.2.2 j):=by
   intro i h;obtain⟨B,d,h1,h2,h3,⟨b,o,h4,h5⟩⟩:=hv i h;exact⟨⟨B,d,b,o,fun j=>if h':j<vs[i].2.length then (h5 j h').choose else []⟩,h1,h2,h3,h4,fun j h'=>by simp only[dif_pos h'];exact (h5 j h').choose_spec⟩
  exact⟨fun i=>if h:i<vs.length then (one i h).choose.1 else none,fun i=>if h:i<vs.length then (one i h).choose.2.1 else 0,fun i=>if h:i<vs.length then (one i h).choose.2.2.1 else 0,fun i=>if h:i<vs.length then (one i h).choose.2.2.2.1 else 0,fun i=>if h:i<vs.length then (one i h).choose.2.2.2.2 else fun _=>[],fun i h=>by simp only[dif_pos h];exact (one i h).choose_spec⟩
 obtain⟨bA,bc,bb,bo,bcs,hvc⟩:=hv';exact RepT.mk k t n ps fs vs A c A' c' A'' c'' pb po fb fo vb vo pc fc bA bc bb bo bcs ht hA hA' hA'' (fun i h=>(hpc i h).1) (fun i h=>(hpc i h).2) (fun i h=>⟨(hf i h).1,(hf i h).2.1,(hf i h).2.2.1,(hfc i h).1⟩) (fun i h=>(hfc i h).2)
  (fun i h=>⟨(hvc i h).1,(hvc i h).2.1,(hvc i h).2.2.1,(hvc i h).2.2.2.1⟩) (fun i h j h'=>((hvc i h).2.2.2.2 j h').1) (fun i h j h'=>((hvc i h).2.2.2.2 j h').2)
theorem RowAt.weak {K K':Nat->Prop} (hk:∀ b,K b->K' b) {A:Option Addr} {l c b o:Nat} (h:RowAt K A l c b o):RowAt K' A l c b o:=⟨h.le,h.big,h.none,fun hl=>⟨(h.some hl).1,hk _ (h.some hl).2⟩⟩
theorem RepT.keep {K K':Nat->Prop} {w w':World} (hK:∀ b,K b->K' b) (hk:∀ b o v,K b->w.cell? ⟨b,o,none⟩=some v->w'.cell? ⟨b,o,none⟩=some v) (t:Ty):∀ cs,RepT K w t cs->RepT K' w' t cs:=by
 refine Ty.ind (C:=fun t=>∀ cs,RepT K w t cs->RepT K' w' t cs) ?_ t;intro k t n ps fs vs ihp ihf ihv cs h;obtain⟨A,c,A',c',A'',c'',rfl,ht,⟨pb,po,hA,hp⟩,⟨fb,fo,hA',hf⟩,⟨vb,vo,hA'',hv⟩⟩:=h.inv;refine RepT.of ht ⟨pb,po,hA.weak hK,fun i h=>?_⟩ ⟨fb,fo,hA'.weak hK,fun i h=>?_⟩ ⟨vb,vo,hA''.weak hK,fun i h=>?_⟩
 ·obtain⟨cs,h1,h2⟩:=hp i h;have hb:=(hA.some (by omega)).2;exact⟨cs,fun j u hj=>hk _ _ _ hb (h1 j u hj),ihp _ (List.getElem_mem h) cs h2⟩
 ·obtain⟨h1,h2,h3,cs,h4,h5⟩:=hf i h;have hb:=(hA'.some (by omega)).2;exact⟨hk _ _ _ hb h1,hk _ _ _ hb h2,h3,cs,fun j u hj=>hk _ _ _ hb (h4 j u hj),ihf _ (List.getElem_mem h) cs h5⟩
 ·obtain⟨B,d,h1,h2,h3,⟨b,o,h4,h5⟩⟩:=hv i h;have hb:=(hA''.some (by omega)).2;refine⟨B,d,hk _ _ _ hb h1,hk _ _ _ hb h2,h3,⟨b,o,h4.weak hK,fun j h'=>?_⟩⟩;obtain⟨cs,h6,h7⟩:=h5 j h';have hb:=(h4.some (by omega)).2;exact⟨cs,fun x u hx=>hk _ _ _ hb (h6 x u hx),ihv _ (List.getElem_mem h) _ (List.getElem_mem h') cs h7⟩
theorem AtT.keep {K K':Nat->Prop} {w w':World} {t:Ty} {b o:Nat} (h:AtT K w t b o) (hK:∀ b,K b->K' b) (hk:∀ b o v,K b->w.cell? ⟨b,o,none⟩=some v->w'.cell? ⟨b,o,none⟩=some v) (hb:∀ o v,w.cell? ⟨b,o,none⟩=some v->w'.cell? ⟨b,o,none⟩=some v):AtT K' w' t b o:=by
 obtain⟨cs,h1,h2⟩:=h;exact⟨cs,fun j u hj=>hb _ _ (h1 j u hj),RepT.keep hK hk t cs h2⟩
theorem RepT.later {K:Nat->Prop} {w w':World} {t:Ty} {cs:List Value} (h:RepT K w t cs) (hb:Below w.heap.size w w'):RepT K w' t cs:=RepT.keep (fun _ h=>h) (fun _ _ _ _ h=>Aa hb h) t cs h
theorem AtT.later {K:Nat->Prop} {w w':World} {t:Ty} {b o:Nat} (h:AtT K w t b o) (hb:Below w.heap.size w w'):AtT K w' t b o:=h.keep (fun _ h=>h) (fun _ _ _ _ h=>Aa hb h) (fun _ _ h=>Aa hb h)
theorem ListT.later {K:Nat->Prop} {w w':World} {l:List Ty} {A:Option Addr} {c:Nat} (h:ListT K w l A c) (hb:Below w.heap.size w w'):ListT K w' l A c:=by
 obtain⟨b,o,h1,h2⟩:=h;exact⟨b,o,h1,fun i hi=>(h2 i hi).later hb⟩
theorem ListF.later {K:Nat->Prop} {w w':World} {l:Bp} {A:Option Addr} {c:Nat} (h:ListF K w l A c) (hb:Below w.heap.size w w'):ListF K w' l A c:=by
 obtain⟨b,o,h1,h2⟩:=h;exact⟨b,o,h1,fun i hi=>⟨Aa hb (h2 i hi).1,Aa hb (h2 i hi).2.1,(h2 i hi).2.2.1,(h2 i hi).2.2.2.later hb⟩⟩
theorem ListV.later {K:Nat->Prop} {w w':World} {l:Bm} {A:Option Addr} {c:Nat} (h:ListV K w l A c) (hb:Below w.heap.size w w'):ListV K w' l A c:=by
 obtain⟨b,o,h1,h2⟩:=h;refine⟨b,o,h1,fun i hi=>?_⟩;obtain⟨B,d,h3,h4,h5,h6⟩:=h2 i hi;exact⟨B,d,Aa hb h3,Aa hb h4,h5,h6.later hb⟩
theorem AtT.six {K:Nat->Prop} {w:World} {k:Int} {t:ByteArray} {n:Int} {ps:List Ty} {fs:Bp} {vs:Bm} {b o:Nat} (h:AtT K w (.mk k t n ps fs vs) b o) :
  ∃ A c A' c' A'' c'',(w.cell? ⟨b,o,none⟩=some (.int .i64 k)/\w.cell? ⟨b,o+1,none⟩=some (.string t)/\w.cell? ⟨b,o+2,none⟩=some (.int .i64 n)/\w.cell? ⟨b,o+3,none⟩=some (.slice A ps.length c)/\w.cell? ⟨b,o+4,none⟩=some (.slice A' fs.length c')/\w.cell? ⟨b,o+5,none⟩=some (.slice A'' vs.length c''))/\t.size<=1000000000000000/\ListT K w ps A c/\ListF K w fs A' c'/\ListV K w vs A'' c'':=by
 obtain⟨cs,h1,h2⟩:=h;obtain⟨A,c,A',c',A'',c'',rfl,h3⟩:=h2.inv;exact⟨A,c,A',c',A'',c'',⟨h1 0 _ rfl,h1 1 _ rfl,h1 2 _ rfl,h1 3 _ rfl,h1 4 _ rfl,h1 5 _ rfl⟩,h3⟩
theorem AtT.box {K:Nat->Prop} {w:World} {t:Ty} {cs:List Value} (T:TypeId) (h:RepT K w t cs):AtT K (w.alloc (.cells cs.toArray T)) t w.heap.size 0:=by
 refine⟨cs,fun j u hj=>?_,h.later ((Below.refl _ _).alloc (Nat.le_refl _) _)⟩;rw[cell_of_row _ _ _ _ _ _ (heap_alloc_new w _),Nat.zero_add];simpa using hj
theorem ListT.at {K:Nat->Prop} {w:World} {l:List Ty} {A:Option Addr} {c:Nat} (h:ListT K w l A c) (h0:0<l.length):∃ b o,A=some ⟨b,o,none⟩/\K b/\∀ i (h:i<l.length),AtT K w l[i] b (o+i*6):=by
 obtain⟨b,o,h1,h2⟩:=h;exact⟨b,o,(h1.some h0).1,(h1.some h0).2,h2⟩
theorem ListF.at {K:Nat->Prop} {w:World} {l:Bp} {A:Option Addr} {c:Nat} (h:ListF K w l A c) (h0:0<l.length):∃ b o,A=some ⟨b,o,none⟩/\K b/\∀ i (h:i<l.length),w.cell? ⟨b,o+i*8,none⟩=some (.string l[i].1)/\w.cell? ⟨b,o+i*8+1,none⟩=some (.int .i64 l[i].2.1)/\l[i].1.size<=1000000000000000/\AtT K w l[i].2.2 b (o+i*8+2):=by
 obtain⟨b,o,h1,h2⟩:=h;exact⟨b,o,(h1.some h0).1,(h1.some h0).2,h2⟩
theorem ListV.at {K:Nat->Prop} {w:World} {l:Bm} {A:Option Addr} {c:Nat} (h:ListV K w l A c) (h0:0<l.length):∃ b o,A=some ⟨b,o,none⟩/\K b/\∀ i (h:i<l.length),∃ B d,w.cell? ⟨b,o+i*2,none⟩=some (.string l[i].1)/\w.cell? ⟨b,o+i*2+1,none⟩=some (.slice B l[i].2.length d)/\l[i].1.size<=1000000000000000/\ListT K w l[i].2 B d:=by
 obtain⟨b,o,h1,h2⟩:=h;exact⟨b,o,(h1.some h0).1,(h1.some h0).2,h2⟩
def Fe (a b:Int):Int:=if a≠0 then a else b
theorem Bj (b:Int):Fe 0 b=b:=by simp[Fe]
theorem Dg {a:Int} (h:a≠0) (b:Int):Fe a b=a:=by simp[Fe,h]
theorem Clean.self {x y:List Tok} {c:Int} (h:Clean x y c):Clean x y (Bv x y):=h.to h.val.symm
theorem Clean.lex_app {x y x' y':List Tok} {c c':Int} (h:Clean x y c) (h':Clean x' y' c'):Bv (x++x') (y++y')=Fe (Bv x y) (Bv x' y'):=by
 rw[(h.app h').val,h.val,h'.val];rfl
theorem Clean.items {α:Type} (e:α->List Tok):∀ (l l':List α),l.length=l'.length->(∀ x∈l,∀ y,Clean (e x) (e y) (Bv (e x) (e y)))->Clean (l.map e).flatten (l'.map e).flatten (Bv (l.map e).flatten (l'.map e).flatten)
 | [],[],_,_=>Clean.nil.self
 | [],_ :: _,h,_=>by simp at h
 | _ :: _,[],h,_=>by simp at h
 | a :: l,b :: l',h,hc=>by
  simp only[List.map_cons,List.flatten_cons];exact ((hc a (List.mem_cons_self ..) b).app (Clean.items e l l' (by simpa using h) (fun x hx=>hc x (List.mem_cons_of_mem _ hx)))).self
def E4 {α:Type} (e:α->List Tok) (l:List α):List Tok:=.i l.length :: (l.map e).flatten
theorem Clean.rows {α:Type} (e:α->List Tok) (l l':List α) (hc:∀ x∈l,∀ y,Clean (e x) (e y) (Bv (e x) (e y))):Clean (E4 e l) (E4 e l') (Bv (E4 e l) (E4 e l')):=by
 unfold E4;by_cases h:l.length=l'.length
 ·exact ((Clean.tok (.i l.length) (.i l'.length)).app (Clean.items e l l' h hc)).self
 ·exact ((Clean.tok (.i l.length) (.i l'.length)).first (by
   intro h0;have:=Fj h0;simp at this;omega)).self
theorem Jy:Bq=E4 flat:=rfl
theorem N6:Du=E4 fun f=>[.s f.1,.i f.2.1]++flat f.2.2:=rfl
theorem N8:Dv=E4 fun v=>.s v.1 :: Bq v.2:=rfl
theorem So (a:Ty):∀ b,Clean (flat a) (flat b) (Bt a b):=by
 refine Ty.ind (C:=fun a=>∀ b,Clean (flat a) (flat b) (Bt a b)) ?_ a;intro k t n ps fs vs ihp ihf ihv b;obtain⟨k',t',n',ps',fs',vs'⟩:=b;unfold Bt;rw[Ic,Ic];have h3:Clean [.i k,.s t,.i n] [.i k',.s t',.i n'] (Bv [.i k,.s t,.i n] [.i k',.s t',.i n']):=((Clean.tok (.i k) (.i k')).app ((Clean.tok (.s t) (.s t')).app (Clean.tok (.i n) (.i n')))).self;have hp:Clean (Bq ps) (Bq ps') (Bv (Bq ps) (Bq ps')):=by
  rw[Jy];exact Clean.rows flat ps ps' fun x hx y=>ihp x hx y
 have hf:Clean (Du fs) (Du fs') (Bv (Du fs) (Du fs')):=by
  rw[N6];refine Clean.rows _ fs fs' fun x hx y=>?_;exact (((Clean.tok (.s x.1) (.s y.1)).app (Clean.tok (.i x.2.1) (.i y.2.1))).app (ihf x hx y.2.2)).self
 have hv:Clean (Dv vs) (Dv vs') (Bv (Dv vs) (Dv vs')):=by
  rw[N8];refine Clean.rows _ vs vs' fun x hx y=>?_;exact ((Clean.tok (.s x.1) (.s y.1)).app (Clean.rows flat x.2 y.2 fun b hb y=>ihv x hx b hb y)).self
 exact (h3.app (hp.app (hf.app hv))).self
theorem Jr (a b:Ty):Clean (flat a) (flat b) (Bv (flat a) (flat b)):=So a b
theorem O5 (l l':List Ty):Clean (Bq l) (Bq l') (Bv (Bq l) (Bq l')):=Clean.rows flat l l' fun x _ y=>Jr x y
theorem O4 (x y:ByteArray×Int×Ty):Clean ([Tok.s x.1,.i x.2.1]++flat x.2.2) ([.s y.1,.i y.2.1]++flat y.2.2) (Bv ([.s x.1,.i x.2.1]++flat x.2.2) ([.s y.1,.i y.2.1]++flat y.2.2)):=
 (((Clean.tok (.s x.1) (.s y.1)).app (Clean.tok (.i x.2.1) (.i y.2.1))).app (Jr x.2.2 y.2.2)).self
theorem X2 (l l':Bp):Clean (Du l) (Du l') (Bv (Du l) (Du l')):=Clean.rows _ l l' fun x _ y=>O4 x y
theorem O6 (x y:ByteArray×List Ty):Clean (Tok.s x.1 :: Bq x.2) (.s y.1 :: Bq y.2) (Bv (.s x.1 :: Bq x.2) (.s y.1 :: Bq y.2)):=((Clean.tok (.s x.1) (.s y.1)).app (O5 x.2 y.2)).self
theorem X3 (l l':Bm):Clean (Dv l) (Dv l') (Bv (Dv l) (Dv l')):=Clean.rows _ l l' fun x _ y=>O6 x y
theorem Gu (a b:Tok):Bv [a] [b]=Dr a b:=(Clean.tok a b).val
theorem Oq (k t n ps fs vs k' t' n' ps' fs' vs'):Bt (.mk k t n ps fs vs) (.mk k' t' n' ps' fs' vs')=Fe (De k k') (Fe (Dj t t') (Fe (De n n') (Fe (Bv (Bq ps) (Bq ps')) (Fe (Bv (Du fs) (Du fs')) (Bv (Dv vs) (Dv vs')))))):=by
 unfold Bt;rw[Ic,Ic];have e1:([Tok.i k,.s t,.i n]++(Bq ps++(Du fs++Dv vs)))=[.i k]++([.s t]++([.i n]++(Bq ps++(Du fs++Dv vs)))):=rfl;have e2:([Tok.i k',.s t',.i n']++(Bq ps'++(Du fs'++Dv vs')))=[.i k']++([.s t']++([.i n']++(Bq ps'++(Du fs'++Dv vs')))):=rfl;have c0:=(X2 fs fs').app (X3 vs vs');have c1:=(O5 ps ps').app c0;have c2:=(Clean.tok (.i n) (.i n')).app c1;have c3:=(Clean.tok (.s t) (.s t')).app c2;rw[e1,e2,(Clean.tok (.i k) (.i k')).lex_app c3,(Clean.tok (.s t) (.s t')).lex_app c2,(Clean.tok (.i n) (.i n')).lex_app c1,(O5 ps ps').lex_app c0,(X2 fs fs').lex_app (X3 vs vs'),Gu,Gu,Gu];rfl
theorem Kp (x y:ByteArray×Int×Ty):Bv ([Tok.s x.1,.i x.2.1]++flat x.2.2) ([.s y.1,.i y.2.1]++flat y.2.2)=Fe (Dj x.1 y.1) (Fe (De x.2.1 y.2.1) (Bt x.2.2 y.2.2)):=by
 have e1:([Tok.s x.1,.i x.2.1]++flat x.2.2)=[.s x.1]++([.i x.2.1]++flat x.2.2):=rfl;have e2:([Tok.s y.1,.i y.2.1]++flat y.2.2)=[.s y.1]++([.i y.2.1]++flat y.2.2):=rfl;have c1:=(Clean.tok (.i x.2.1) (.i y.2.1)).app (Jr x.2.2 y.2.2);rw[e1,e2,(Clean.tok (.s x.1) (.s y.1)).lex_app c1,(Clean.tok (.i x.2.1) (.i y.2.1)).lex_app (Jr x.2.2 y.2.2),Gu,Gu];rfl
theorem O1 (x y:ByteArray×List Ty):Bv (Tok.s x.1 :: Bq x.2) (.s y.1 :: Bq y.2)=Fe (Dj x.1 y.1) (Bv (Bq x.2) (Bq y.2)):=by
 have e1:(Tok.s x.1 :: Bq x.2)=[.s x.1]++Bq x.2:=rfl;have e2:(Tok.s y.1 :: Bq y.2)=[.s y.1]++Bq y.2:=rfl;rw[e1,e2,(Clean.tok (.s x.1) (.s y.1)).lex_app (O5 x.2 y.2),Gu];rfl
def Ct {α:Type} (e:α->List Tok) (l l':List α) (i:Nat):Int:=Bv ((l.drop i).map e).flatten ((l'.drop i).map e).flatten
theorem Ij {α:Type} (e:α->List Tok) {l l':List α} (h:l.length≠l'.length):Bv (E4 e l) (E4 e l')=De l.length l'.length:=by
 have hne:Dr (.i l.length) (.i l'.length)≠0:=by
  intro h0;have:=Fj h0;simp at this;omega
 unfold E4;rw[Bv,if_pos hne];rfl
theorem G0 {α:Type} (e:α->List Tok) {l l':List α} (h:l.length=l'.length):Bv (E4 e l) (E4 e l')=Ct e l l' 0:=by
 unfold E4 Ct;rw[Bv,h,if_neg (by simp[Km])];rfl
theorem Gz {α:Type} (e:α->List Tok) {l l':List α} (h:l.length=l'.length):Ct e l l' l.length=0:=by
 unfold Ct;rw[List.drop_of_length_le (Nat.le_refl _),List.drop_of_length_le (by omega)];rfl
theorem F7 {α:Type} (e:α->List Tok) (hc:∀ x y,Clean (e x) (e y) (Bv (e x) (e y))) {l l':List α} (h:l.length=l'.length) {i:Nat} (hi:i<l.length) (hi':i<l'.length):Ct e l l' i=Fe (Bv (e l[i]) (e l'[i])) (Ct e l l' (i+1)):=by
 unfold Ct;rw[List.drop_eq_getElem_cons hi,List.drop_eq_getElem_cons hi',List.map_cons,List.map_cons,List.flatten_cons,List.flatten_cons];exact (hc _ _).lex_app (Clean.items e _ _ (by simp;omega) (fun x _ y=>hc x y))
theorem Oh {α:Type} (e:α->List Tok):∀ (l l':List α) (r s:List Tok),l.length=l'.length->(∀ x∈l,∀ y r s,e x++r=e y++s->x=y/\r=s)->(l.map e).flatten++r=(l'.map e).flatten++s->l=l'/\r=s
 | [],[],_,_,_,_,h=>⟨rfl,by simpa using h⟩
 | [],_ :: _,_,_,h,_,_=>by simp at h
 | _ :: _,[],_,_,h,_,_=>by simp at h
 | a :: l,b :: l',r,s,h,hi,he=>by
  simp only[List.map_cons,List.flatten_cons,List.append_assoc] at he;obtain⟨rfl,h2⟩:=hi a (List.mem_cons_self ..) b _ _ he;obtain⟨rfl,h3⟩:=Oh e l l' r s (by simpa using h) (fun x hx=>hi x (List.mem_cons_of_mem _ hx)) h2;exact⟨rfl,h3⟩
theorem Lp {α:Type} (e:α->List Tok) (l l':List α) (r s:List Tok) (hi:∀ x∈l,∀ y r s,e x++r=e y++s->x=y/\r=s) (h:E4 e l++r=E4 e l'++s):l=l'/\r=s:=by
 unfold E4 at h;simp only[List.cons_append,List.cons.injEq,Tok.i.injEq] at h;exact Oh e l l' r s (by omega) hi h.2
theorem Yk (a:Ty):∀ b r s,flat a++r=flat b++s->a=b/\r=s:=by
 refine Ty.ind (C:=fun a=>∀ b r s,flat a++r=flat b++s->a=b/\r=s) ?_ a;intro k t n ps fs vs ihp ihf ihv b r s h;obtain⟨k',t',n',ps',fs',vs'⟩:=b;rw[Ic,Ic] at h;simp only[List.cons_append,List.nil_append,List.cons.injEq,Tok.i.injEq,Tok.s.injEq,List.append_assoc] at h;obtain⟨rfl,rfl,rfl,h⟩:=h;rw[Jy,N6,N8] at h;obtain⟨e1,h1⟩:=Lp flat ps ps' _ _ (fun x hx y r s h=>ihp x hx y r s h) h;obtain⟨e2,h2⟩:=Lp (fun f:ByteArray×Int×Ty=>[Tok.s f.1,.i f.2.1]++flat f.2.2) fs fs' _ _ (fun x hx y r s h=>by
  obtain⟨a,b,c⟩:=x;obtain⟨a',b',c'⟩:=y;simp only[List.cons_append,List.nil_append,List.cons.injEq,Tok.i.injEq,Tok.s.injEq] at h;obtain⟨rfl,rfl,h⟩:=h;obtain⟨h1,h2⟩:=ihf _ hx c' r s h;subst h1;exact⟨rfl,h2⟩) h1
 obtain⟨e3,h3⟩:=Lp (fun v:ByteArray×List Ty=>Tok.s v.1 :: Bq v.2) vs vs' _ _ (fun x hx y r s h=>by
  obtain⟨a,l⟩:=x;obtain⟨a',l'⟩:=y;simp only[List.cons_append,List.cons.injEq,Tok.s.injEq] at h;obtain⟨rfl,h⟩:=h;rw[Jy] at h;obtain⟨rfl,h2⟩:=Lp flat l l' r s (fun b hb y r s h=>ihv _ hx b hb y r s h) h;exact⟨rfl,h2⟩) h2
 subst e1 e2 e3;exact⟨rfl,h3⟩
theorem Di {a b:Ty}:Bt a b=0↔a=b:=
 ⟨fun h=>(Yk a b [] [] (by rw[Ol h])).1,fun h=>by rw[h];exact Ok _⟩
theorem Ea (a b:Ty):Bt b a = - Bt a b:=Oj _ _
theorem F2 (a b:Ty):Bt a b = -1\/Bt a b=0\/Bt a b=1:=Uq _ _
theorem Ff {a b c:Ty} (h:Bt a b = -1) (h':Bt b c = -1):Bt a c = -1:=Mr h h'
end Go.Proofs.YtlpfpehegddcfaaGreatDoor
