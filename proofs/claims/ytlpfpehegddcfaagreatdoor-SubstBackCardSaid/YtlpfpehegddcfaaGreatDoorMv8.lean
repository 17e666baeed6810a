import Derived.Test.YtlpfpehegddcfaaGreatDoorMv6
namespace Go.Proofs.YtlpfpehegddcfaaGreatDoor
set_option maxRecDepth 100000
set_option maxHeartbeats 64000000
open Go.RowKit
theorem RowAt.both {K:Nat->Prop} {w:World} {A:Option Addr} {l c b o:Nat} (h:RowAt K A l c b o) (hb:0<l->b<w.heap.size):RowAt (fun b=>K b/\b<w.heap.size) A l c b o:=⟨h.le,h.big,h.none,fun hl=>⟨(h.some hl).1,(h.some hl).2,hb hl⟩⟩
theorem RepT.both {K:Nat->Prop} {w:World} (t:Ty):∀ cs,RepT K w t cs->RepT (fun b=>K b/\b<w.heap.size) w t cs:=by
 refine Ty.ind (C:=fun t=>∀ cs,RepT K w t cs->RepT (fun b=>K b/\b<w.heap.size) w t cs) ?_ t;intro k t n ps fs vs ihp ihf ihv cs h;obtain⟨A,c,A',c',A'',c'',rfl,ht,⟨pb,po,hA,hp⟩,⟨fb,fo,hA',hf⟩,⟨vb,vo,hA'',hv⟩⟩:=h.inv;refine RepT.of ht ⟨pb,po,hA.both (fun hl=>?_),fun i h=>?_⟩ ⟨fb,fo,hA'.both (fun hl=>World.block_lt_of_cell? _ _ (hf 0 hl).1),fun i h=>?_⟩ ⟨vb,vo,hA''.both (fun hl=>?_),fun i h=>?_⟩
 ·obtain⟨cs,h1,h2⟩:=hp 0 hl;have h6:=h2.six;exact World.block_lt_of_cell? _ _ (h1 0 _ (List.getElem?_eq_getElem (by omega)))
 ·obtain⟨cs,h1,h2⟩:=hp i h;exact⟨cs,h1,ihp _ (List.getElem_mem h) cs h2⟩
 ·obtain⟨h1,h2,h3,cs,h4,h5⟩:=hf i h;exact⟨h1,h2,h3,cs,h4,ihf _ (List.getElem_mem h) cs h5⟩
 ·obtain⟨B,d,h1,_⟩:=hv 0 hl;exact World.block_lt_of_cell? _ _ h1
 ·obtain⟨B,d,h1,h2,h3,⟨b,o,h4,h5⟩⟩:=hv i h;refine⟨B,d,h1,h2,h3,⟨b,o,h4.both (fun hl=>?_),fun j h'=>?_⟩⟩
  ·obtain⟨cs,h6,h7⟩:=h5 0 hl;have h8:=h7.six;exact World.block_lt_of_cell? _ _ (h6 0 _ (List.getElem?_eq_getElem (by omega)))
  ·obtain⟨cs,h6,h7⟩:=h5 j h';exact⟨cs,h6,ihv _ (List.getElem_mem h) _ (List.getElem_mem h') cs h7⟩
theorem ListT.both {K:Nat->Prop} {w:World} {l:List Ty} {A:Option Addr} {c:Nat} (h:ListT K w l A c):ListT (fun b=>K b/\b<w.heap.size) w l A c:=by
 obtain⟨b,o,h1,h2⟩:=h;refine⟨b,o,h1.both fun hl=>?_,fun i hi=>?_⟩
 ·obtain⟨cs,h3,h4⟩:=h2 0 hl;have h6:=h4.six;exact World.block_lt_of_cell? _ _ (h3 0 _ (List.getElem?_eq_getElem (by omega)))
 ·obtain⟨cs,h3,h4⟩:=h2 i hi;exact⟨cs,h3,RepT.both _ _ h4⟩
theorem RepT.weak {K K':Nat->Prop} {w:World} {t:Ty} {cs:List Value} (h:RepT K w t cs) (hk:∀ b,K b->K' b):RepT K' w t cs:=RepT.keep hk (fun _ _ _ _ h=>h) t cs h
theorem ListT.weak {K K':Nat->Prop} {w:World} {l:List Ty} {A:Option Addr} {c:Nat} (h:ListT K w l A c) (hk:∀ b,K b->K' b):ListT K' w l A c:=by
 obtain⟨b,o,h1,h2⟩:=h;exact⟨b,o,h1.weak hk,fun i hi=>by obtain⟨cs,h3,h4⟩:=h2 i hi;exact⟨cs,h3,h4.weak hk⟩⟩
theorem Jas (K:Nat->Prop) (w:World) (k:Int):RepT K w (E7 k) [.int .i64 k,.string ⟨#[]⟩,.int .i64 0,.slice none 0 0,.slice none 0 0,.slice none 0 0]:=
 RepT.of (by decide) ⟨⟨0,0,⟨by simp,by decide,fun _=>rfl,fun h=>absurd h (by simp)⟩,fun i h=>absurd h (by simp)⟩⟩ ⟨⟨0,0,⟨by simp,by decide,fun _=>rfl,fun h=>absurd h (by simp)⟩,fun i h=>absurd h (by simp)⟩⟩ ⟨⟨0,0,⟨by simp,by decide,fun _=>rfl,fun h=>absurd h (by simp)⟩,fun i h=>absurd h (by simp)⟩⟩
theorem Bc {w w':World} {b:Nat} {o:Obj} (hb:Below w.heap.size w w') (hlt:b<w.heap.size) (h:w.heap[b]?=some o):w'.heap[b]?=some o:=(hb.block b hlt).trans h
structure ButG (O:Nat->Prop) (w w':World):Prop where
 os:w'.os=w.os
 tape:w'.tape=w.tape
 output:w'.output=w.output
 size:w.heap.size<=w'.heap.size
 block:∀ k,k<w.heap.size->¬ O k->w'.heap[k]?=w.heap[k]?
theorem ButG.refl (O:Nat->Prop) (w:World):ButG O w w:=⟨rfl,rfl,rfl,Nat.le_refl _,fun _ _ _=>rfl⟩
theorem ButG.trans {O O':Nat->Prop} {a b c:World} (h:ButG O a b) (h':ButG O' b c) (ho:∀ x,O' x->O x\/a.heap.size<=x):ButG O a c:=
 ⟨h'.os.trans h.os,h'.tape.trans h.tape,h'.output.trans h.output,Nat.le_trans h.size h'.size,fun k hk hn=>(h'.block k (Nat.lt_of_lt_of_le hk h.size) fun e=>(ho k e).elim hn (by omega)).trans (h.block k hk hn)⟩
theorem ButG.of_below {O:Nat->Prop} {a b:World} (h:Below a.heap.size a b):ButG O a b:=⟨h.os,h.tape,h.output,h.size,fun k hk _=>h.block k hk⟩
theorem ButG.below {O:Nat->Prop} {a b:World} {B:Nat} (h:ButG O a b) (hB:B<=a.heap.size) (ho:∀ x,O x->B<=x):Below B a b:=⟨h.os,h.tape,h.output,h.size,fun k hk=>h.block k (by omega) fun e=>by have:=ho k e;omega⟩
theorem ButG.grown {O:Nat->Prop} {a w w':World} {row:Option Nat} (h:ButG O a w) (hg:w.grownBy w' row) (hr:∀ k,row=some k->O k\/a.heap.size<=k):ButG O a w':=
 ⟨hg.os.trans h.os,hg.tape.trans h.tape,hg.output.trans h.output,Nat.le_trans h.size hg.size,fun k hk hn=>(hg.block k (Nat.lt_of_lt_of_le hk h.size) fun e=>(hr k e.symm).elim hn (by omega)).trans (h.block k hk hn)⟩
theorem ButG.cell {O:Nat->Prop} {a b:World} (h:ButG O a b) {p:Addr} {v:Value} (hp:¬ O p.block) (hc:a.cell? p=some v):b.cell? p=some v:=
 (World.cell?_of_block (h.block p.block (World.block_lt_of_cell? _ _ hc) hp)).trans hc
theorem RepT.but {O K K':Nat->Prop} {a b:World} {t:Ty} {cs:List Value} (h:RepT K a t cs) (hb:ButG O a b) (hk:∀ x,K x->¬ O x/\K' x):RepT K' b t cs:=
 RepT.keep (fun x hx=>(hk x hx).2) (fun x _ _ hx hc=>hb.cell (hk x hx).1 hc) t cs h
theorem Uy (h:Kinds):∀ l:List Ty,H4 h l=⟨h.a || Ce 3 l,h.u || Ce 2 l,h.n || Ce 7 l,h.s || Ce 8 l⟩
 | []=>by simp[H4,Ce]
 | t :: l=>by
  show H4 (I1 h t.k) l=_;rw[Uy (I1 h t.k) l];simp[I1,Ce,Bool.or_assoc]
theorem M6 (l:List Ty):H4 ⟨false,false,false,false⟩ l=Bs l:=by
 rw[Uy];simp[Bs]
def Jd8:Prop:=∀ (K:Nat->Prop) (w0 w:World) (g c:Nat) (l:List Ty),InT K w0 w g c l->Below w0.heap.size w0 w->w0.heap.size<=g->l.length<=1099511627776 ->
 Calls Tryz.prog 100 #[.slice (some ⟨g,0,none⟩) l.length c,.func (.func 101) #[] #[]] w fun e w'=>e=.returned (.tuple #[])/\Below w0.heap.size w0 w'/\∃ s,Wk s/\(∀ x,x∈s↔x∈l)/\s.length=l.length/\InT K w0 w' g c s
def Jd7:Prop:=∀ (w:World),Calls Tryz.prog 100 #[.slice none 0 0,.func (.func 101) #[] #[]] w fun e w'=>e=.returned (.tuple #[])/\Below w.heap.size w w'
def Jd4:Prop:=∀ (K:Nat->Prop) (w0 w:World) (g c:Nat) (s:List Ty),InT K w0 w g c s->Below w0.heap.size w0 w->w0.heap.size<=g->s.length<=1099511627776 ->
 Calls Tryz.prog 102 #[.slice (some ⟨g,0,none⟩) s.length c,.func (.func 103) #[] #[]] w fun e w'=>e=.returned (.slice (some ⟨g,0,none⟩) (Bw s).length c)/\Below w0.heap.size w0 w'/\InT K w0 w' g c (Bw s)
def Jd3:Prop:=∀ (w:World),Calls Tryz.prog 102 #[.slice none 0 0,.func (.func 103) #[] #[]] w fun e w'=>e=.returned (.slice none 0 0)/\Below w.heap.size w w'
theorem X4 (A:Option Addr) (n c:Nat) (w:World) (h:n<=c):Calls Tryz.prog 105 #[.slice A n c] w fun e w'=>e=.returned (.slice A n n)/\w'=w:=by
 go_enter Tryz.func105,Tryz.ntmps105;go_wp2_with fail;go_ret
 exact⟨rfl,rfl⟩
theorem Kq {l:List Ty} {p:Ty->Bool} {i:Nat} (h:i<l.length):(l.take (i+1)).filter p=(l.take i).filter p++(if p l[i] then [l[i]] else []):=by
 rw[List.take_succ_eq_append_getElem h,List.filter_append]
 congr 1
 by_cases hp:p l[i] <;> simp[hp]
def Gl (K:Nat->Prop) (w:World) (l:List Ty):Ending->World->Prop:=fun e w'=>∃ cs,e=.returned (.agg cs.toArray)/\RepT (fun b=>K b\/w.heap.size<=b) w' (Bi l) cs/\Below w.heap.size w w'
structure KeepR (K:Nat->Prop) (w1 wr:World) (gk g c:Nat) (h:Kinds) (ts:List Ty) (i:Nat) (F:List Ty):Prop where
 le:i<=ts.length
 f:F=(ts.take i).filter (Cx h)
 kb:KB wr gk h
 below:Below w1.heap.size w1 wr
 row:InT K w1 wr g c (F++ts.drop F.length)
theorem KeepR.fle {K:Nat->Prop} {w1 wr:World} {gk g c:Nat} {h:Kinds} {ts:List Ty} {i:Nat} {F:List Ty} (r:KeepR K w1 wr gk g c h ts i F):F.length<=i:=by
 rw[r.f];exact Nat.le_trans (List.length_filter_le ..) (by simp;omega)
theorem KeepR.at {K:Nat->Prop} {w1 wr:World} {gk g c:Nat} {h:Kinds} {ts:List Ty} {i:Nat} {F:List Ty} (r:KeepR K w1 wr gk g c h ts i F) (hi:i<ts.length):∃ cs,RepT K w1 ts[i] cs/\∀ (j:Nat) (u:Value),cs[j]?=some u->wr.cell? ⟨g,i*6+j,none⟩=some u:=by
 refine r.row.reps i _ ?_;have:=r.fle;rw[List.getElem?_append_right this,List.getElem?_drop,show F.length+(i - F.length)=i from by omega];exact List.getElem?_eq_getElem hi
theorem Au {B:Nat} {a w:World} (h:Below B a w):∀ n,Below B a (w.drewN n)
 | 0=>h
 | n+1=>(Au h n).drew
def Aj (s:Shp) (t:ByteArray) (n:Int) (np nf nv:Nat):Bool:=
 !((!s.t && !(t.toList == [])) || (!s.n && n != 0) || (!s.f && decide (0<nf)) || (!s.v && decide (0<nv))) && (decide (s.lo<=(np:Int)) && (s.hi == -1 || decide ((np:Int)<=s.hi)))
theorem Vx {w:World} {b o np nf nv c1 c2 c3:Nat} {t:ByteArray} {n lo hi:Int} {A1 A2 A3:Option Addr} (x1:w.cell? ⟨b,o+1,none⟩=some (.string t)) (x2:w.cell? ⟨b,o+2,none⟩=some (.int .i64 n)) (x3:w.cell? ⟨b,o+3,none⟩=some (.slice A1 np c1)) (x4:w.cell? ⟨b,o+4,none⟩=some (.slice A2 nf c2)) (x5:w.cell? ⟨b,o+5,none⟩=some (.slice A3 nv c3)) :
  Calls Tryz.prog 95 #[.agg #[.bool false,.bool false,.bool false,.bool false,.int .i64 lo,.int .i64 hi],.pointer (some ⟨b,o,none⟩)] w fun e w'=>e=.returned (.bool (Aj ⟨false,false,false,false,lo,hi,true⟩ t n np nf nv))/\Below w.heap.size w w':=by
 have hlt:b<w.heap.size:=World.block_lt_of_cell? _ _ x1;have HB:Hid (Below w.heap.size w (w.alloc (.cells #[.bool false,.bool false,.bool false,.bool false,.int .i64 lo,.int .i64 hi] 138))):=Hd ((Below.refl _ _).alloc (Nat.le_refl _) _)
 cases q0:t.toList with
 | nil=>
  have e0:(t.toList == [])=true:=by rw[q0];rfl
  have Q0:=Hd e0;by_cases q1:n=0
  ·have e1:(n != 0)=false:=by simpa using q1
   have Q1:=Hd q1;clear q1;by_cases q2:nf=0
   ·have e2:¬ 0<nf:=(by omega);have z2:decide ((0:Int)<(nf:Int))=false:=(by simp;omega);have Q2:=Hd e2;clear q2;by_cases q3:nv=0
    ·have e3:¬ 0<nv:=(by omega);have z3:decide ((0:Int)<(nv:Int))=false:=(by simp;omega);have Q3:=Hd e3;clear q3;by_cases h1:lo<=(np:Int)
     ·by_cases h2:hi = -1
      ·have t2:(hi == -1)=true:=(by simpa using h2);have HR:Hid (Aj ⟨false,false,false,false,lo,hi,true⟩ t n np nf nv=true):=Hd (by unfold Aj;simp[Q0.out,Q1.out,Q2.out,Q3.out,h1,h2]);clear h2;go_enter Tryz.func95,Tryz.ntmps95;go_wp2_with fail
       go_quiet (fail)
       go_wp2_with fail;go_ret
       exact⟨by rw[HR.out];first | rfl | (show Ending.returned (.bool (decide ((np:Int)<=hi)))=_;rw[t3]),by first | exact HB.out | exact Au HB.out _ | exact HB.out.drew⟩
      ·have t2:(hi == -1)=false:=(by simpa using h2);by_cases h3:(np:Int)<=hi
       ·have t3:decide ((np:Int)<=hi)=true:=(by simpa using h3);have HR:Hid (Aj ⟨false,false,false,false,lo,hi,true⟩ t n np nf nv=true):=Hd (by unfold Aj;simp[Q0.out,Q1.out,Q2.out,Q3.out,h1,t2,h3]);clear h2;go_enter Tryz.func95,Tryz.ntmps95;go_wp2_with fail
        go_quiet (fail)
        go_wp2_with fail;go_ret
        exact⟨by rw[HR.out];first | rfl | (show Ending.returned (.bool (decide ((np:Int)<=hi)))=_;rw[t3]),by first | exact HB.out | exact Au HB.out _ | exact HB.out.drew⟩
       ·have t3:decide ((np:Int)<=hi)=false:=(by simpa using h3);have HR:Hid (Aj ⟨false,false,false,false,lo,hi,true⟩ t n np nf nv=false):=Hd (by unfold Aj;simp[Q0.out,Q1.out,Q2.out,Q3.out,t2,h3]);clear h2;go_enter Tryz.func95,Tryz.ntmps95;go_wp2_with fail
        go_quiet (fail)
        go_wp2_with fail;go_ret
        exact⟨by rw[HR.out];first | rfl | (show Ending.returned (.bool (decide ((np:Int)<=hi)))=_;rw[t3]),by first | exact HB.out | exact Au HB.out _ | exact HB.out.drew⟩
     ·have t1:decide (lo<=(np:Int))=false:=(by simpa using h1);have t1b:(np:Int)<lo:=(by omega);have HR:Hid (Aj ⟨false,false,false,false,lo,hi,true⟩ t n np nf nv=false):=Hd (by unfold Aj;simp[Q0.out,Q1.out,Q2.out,Q3.out,h1]);go_enter Tryz.func95,Tryz.ntmps95;go_wp2_with fail
      go_quiet (fail)
      go_wp2_with fail;go_ret
      exact⟨by rw[HR.out];first | rfl | (show Ending.returned (.bool (decide ((np:Int)<=hi)))=_;rw[t3]),by first | exact HB.out | exact Au HB.out _ | exact HB.out.drew⟩
    ·have e3:0<nv:=(by omega);have z3:decide ((0:Int)<(nv:Int))=true:=(by simp;omega);have Q3:=Hd e3;clear q3;have HR:Hid (Aj ⟨false,false,false,false,lo,hi,true⟩ t n np nf nv=false):=Hd (by unfold Aj;simp[Q0.out,Q1.out,Q2.out,Q3.out]);go_enter Tryz.func95,Tryz.ntmps95;go_wp2_with fail;go_ret
     exact⟨by rw[HR.out];first | rfl | (show Ending.returned (.bool (decide ((np:Int)<=hi)))=_;rw[t3]),by first | exact HB.out | exact Au HB.out _ | exact HB.out.drew⟩
   ·have e2:0<nf:=(by omega);have z2:decide ((0:Int)<(nf:Int))=true:=(by simp;omega);have Q2:=Hd e2;clear q2;have HR:Hid (Aj ⟨false,false,false,false,lo,hi,true⟩ t n np nf nv=false):=Hd (by unfold Aj;simp[Q0.out,Q1.out,Q2.out]);go_enter Tryz.func95,Tryz.ntmps95;go_wp2_with fail;go_ret
    exact⟨by rw[HR.out];first | rfl | (show Ending.returned (.bool (decide ((np:Int)<=hi)))=_;rw[t3]),by first | exact HB.out | exact Au HB.out _ | exact HB.out.drew⟩
  ·have e1:(n != 0)=true:=by simpa using q1
   have Q1:=Hd q1;have HR:Hid (Aj ⟨false,false,false,false,lo,hi,true⟩ t n np nf nv=false):=Hd (by unfold Aj;simp[Q0.out,Q1.out]);clear q1;go_enter Tryz.func95,Tryz.ntmps95;go_wp2_with fail;go_ret
   exact⟨by rw[HR.out];first | rfl | (show Ending.returned (.bool (decide ((np:Int)<=hi)))=_;rw[t3]),by first | exact HB.out | exact Au HB.out _ | exact HB.out.drew⟩
 | cons hd tl=>
  have e0:(t.toList == [])=false:=by rw[q0];rfl
  have Q0:=Hd e0;have HR:Hid (Aj ⟨false,false,false,false,lo,hi,true⟩ t n np nf nv=false):=Hd (by unfold Aj;simp[Q0.out]);go_enter Tryz.func95,Tryz.ntmps95;go_wp2_with fail;go_ret
  exact⟨by rw[HR.out];first | rfl | (show Ending.returned (.bool (decide ((np:Int)<=hi)))=_;rw[t3]),by first | exact HB.out | exact Au HB.out _ | exact HB.out.drew⟩
theorem V1 {w:World} {b o np nf nv c1 c2 c3:Nat} {t:ByteArray} {n lo hi:Int} {A1 A2 A3:Option Addr} (x1:w.cell? ⟨b,o+1,none⟩=some (.string t)) (x2:w.cell? ⟨b,o+2,none⟩=some (.int .i64 n)) (x3:w.cell? ⟨b,o+3,none⟩=some (.slice A1 np c1)) (x4:w.cell? ⟨b,o+4,none⟩=some (.slice A2 nf c2)) (x5:w.cell? ⟨b,o+5,none⟩=some (.slice A3 nv c3)) :
  Calls Tryz.prog 95 #[.agg #[.bool true,.bool false,.bool false,.bool false,.int .i64 lo,.int .i64 hi],.pointer (some ⟨b,o,none⟩)] w fun e w'=>e=.returned (.bool (Aj ⟨true,false,false,false,lo,hi,true⟩ t n np nf nv))/\Below w.heap.size w w':=by
 have hlt:b<w.heap.size:=World.block_lt_of_cell? _ _ x1;have HB:Hid (Below w.heap.size w (w.alloc (.cells #[.bool true,.bool false,.bool false,.bool false,.int .i64 lo,.int .i64 hi] 138))):=Hd ((Below.refl _ _).alloc (Nat.le_refl _) _);by_cases q1:n=0
 ·have e1:(n != 0)=false:=by simpa using q1
  have Q1:=Hd q1;clear q1;by_cases q2:nf=0
  ·have e2:¬ 0<nf:=by omega
   have z2:decide ((0:Int)<(nf:Int))=false:=by simp;omega
   have Q2:=Hd e2;clear q2;by_cases q3:nv=0
   ·have e3:¬ 0<nv:=(by omega);have z3:decide ((0:Int)<(nv:Int))=false:=(by simp;omega);have Q3:=Hd e3;clear q3;by_cases h1:lo<=(np:Int)
    ·by_cases h2:hi = -1
     ·have t2:(hi == -1)=true:=(by simpa using h2);have HR:Hid (Aj ⟨true,false,false,false,lo,hi,true⟩ t n np nf nv=true):=Hd (by unfold Aj;simp[Q1.out,Q2.out,Q3.out,h1,h2]);clear h2;go_enter Tryz.func95,Tryz.ntmps95;go_wp2_with fail
      go_quiet (fail)
      go_wp2_with fail;go_ret
      exact⟨by rw[HR.out];first | rfl | (show Ending.returned (.bool (decide ((np:Int)<=hi)))=_;rw[t3]),by first | exact HB.out | exact Au HB.out _ | exact HB.out.drew⟩
     ·have t2:(hi == -1)=false:=(by simpa using h2);by_cases h3:(np:Int)<=hi
      ·have t3:decide ((np:Int)<=hi)=true:=(by simpa using h3);have HR:Hid (Aj ⟨true,false,false,false,lo,hi,true⟩ t n np nf nv=true):=Hd (by unfold Aj;simp[Q1.out,Q2.out,Q3.out,h1,t2,h3]);clear h2;go_enter Tryz.func95,Tryz.ntmps95;go_wp2_with fail
       go_quiet (fail)
       go_wp2_with fail;go_ret
       exact⟨by rw[HR.out];first | rfl | (show Ending.returned (.bool (decide ((np:Int)<=hi)))=_;rw[t3]),by first | exact HB.out | exact Au HB.out _ | exact HB.out.drew⟩
      ·have t3:decide ((np:Int)<=hi)=false:=(by simpa using h3);have HR:Hid (Aj ⟨true,false,false,false,lo,hi,true⟩ t n np nf nv=false):=Hd (by unfold Aj;simp[Q1.out,Q2.out,Q3.out,t2,h3]);clear h2;go_enter Tryz.func95,Tryz.ntmps95;go_wp2_with fail
       go_quiet (fail)
       go_wp2_with fail;go_ret
       exact⟨by rw[HR.out];first | rfl | (show Ending.returned (.bool (decide ((np:Int)<=hi)))=_;rw[t3]),by first | exact HB.out | exact Au HB.out _ | exact HB.out.drew⟩
    ·have t1:decide (lo<=(np:Int))=false:=(by simpa using h1);have t1b:(np:Int)<lo:=(by omega);have HR:Hid (Aj ⟨true,false,false,false,lo,hi,true⟩ t n np nf nv=false):=Hd (by unfold Aj;simp[Q1.out,Q2.out,Q3.out,h1]);go_enter Tryz.func95,Tryz.ntmps95;go_wp2_with fail
     go_quiet (fail)
     go_wp2_with fail;go_ret
     exact⟨by rw[HR.out];first | rfl | (show Ending.returned (.bool (decide ((np:Int)<=hi)))=_;rw[t3]),by first | exact HB.out | exact Au HB.out _ | exact HB.out.drew⟩
   ·have e3:0<nv:=(by omega);have z3:decide ((0:Int)<(nv:Int))=true:=(by simp;omega);have Q3:=Hd e3;clear q3;have HR:Hid (Aj ⟨true,false,false,false,lo,hi,true⟩ t n np nf nv=false):=Hd (by unfold Aj;simp[Q1.out,Q2.out,Q3.out]);go_enter Tryz.func95,Tryz.ntmps95;go_wp2_with fail;go_ret
    exact⟨by rw[HR.out];first | rfl | (show Ending.returned (.bool (decide ((np:Int)<=hi)))=_;rw[t3]),by first | exact HB.out | exact Au HB.out _ | exact HB.out.drew⟩
  ·have e2:0<nf:=by omega
   have z2:decide ((0:Int)<(nf:Int))=true:=by simp;omega
   have Q2:=Hd e2;clear q2;have HR:Hid (Aj ⟨true,false,false,false,lo,hi,true⟩ t n np nf nv=false):=Hd (by unfold Aj;simp[Q1.out,Q2.out]);go_enter Tryz.func95,Tryz.ntmps95;go_wp2_with fail;go_ret
   exact⟨by rw[HR.out];first | rfl | (show Ending.returned (.bool (decide ((np:Int)<=hi)))=_;rw[t3]),by first | exact HB.out | exact Au HB.out _ | exact HB.out.drew⟩
 ·have e1:(n != 0)=true:=by simpa using q1
  have Q1:=Hd q1;have HR:Hid (Aj ⟨true,false,false,false,lo,hi,true⟩ t n np nf nv=false):=Hd (by unfold Aj;simp[Q1.out]);clear q1;go_enter Tryz.func95,Tryz.ntmps95;go_wp2_with fail;go_ret
  exact⟨by rw[HR.out];first | rfl | (show Ending.returned (.bool (decide ((np:Int)<=hi)))=_;rw[t3]),by first | exact HB.out | exact Au HB.out _ | exact HB.out.drew⟩
theorem V2 {w:World} {b o np nf nv c1 c2 c3:Nat} {t:ByteArray} {n lo hi:Int} {A1 A2 A3:Option Addr} (x1:w.cell? ⟨b,o+1,none⟩=some (.string t)) (_x2:w.cell? ⟨b,o+2,none⟩=some (.int .i64 n)) (x3:w.cell? ⟨b,o+3,none⟩=some (.slice A1 np c1)) (x4:w.cell? ⟨b,o+4,none⟩=some (.slice A2 nf c2)) (x5:w.cell? ⟨b,o+5,none⟩=some (.slice A3 nv c3)) :
  Calls Tryz.prog 95 #[.agg #[.bool true,.bool true,.bool false,.bool false,.int .i64 lo,.int .i64 hi],.pointer (some ⟨b,o,none⟩)] w fun e w'=>e=.returned (.bool (Aj ⟨true,true,false,false,lo,hi,true⟩ t n np nf nv))/\Below w.heap.size w w':=by
 have hlt:b<w.heap.size:=World.block_lt_of_cell? _ _ x1;have HB:Hid (Below w.heap.size w (w.alloc (.cells #[.bool true,.bool true,.bool false,.bool false,.int .i64 lo,.int .i64 hi] 138))):=Hd ((Below.refl _ _).alloc (Nat.le_refl _) _);by_cases q2:nf=0
 ·have e2:¬ 0<nf:=by omega
  have z2:decide ((0:Int)<(nf:Int))=false:=by simp;omega
  have Q2:=Hd e2;clear q2;by_cases q3:nv=0
  ·have e3:¬ 0<nv:=by omega
   have z3:decide ((0:Int)<(nv:Int))=false:=by simp;omega
   have Q3:=Hd e3;clear q3;by_cases h1:lo<=(np:Int)
   ·by_cases h2:hi = -1
    ·have t2:(hi == -1)=true:=(by simpa using h2);have HR:Hid (Aj ⟨true,true,false,false,lo,hi,true⟩ t n np nf nv=true):=Hd (by unfold Aj;simp[Q2.out,Q3.out,h1,h2]);clear h2;go_enter Tryz.func95,Tryz.ntmps95;go_wp2_with fail
     go_quiet (fail)
     go_wp2_with fail;go_ret
     exact⟨by rw[HR.out];first | rfl | (show Ending.returned (.bool (decide ((np:Int)<=hi)))=_;rw[t3]),by first | exact HB.out | exact Au HB.out _ | exact HB.out.drew⟩
    ·have t2:(hi == -1)=false:=(by simpa using h2);by_cases h3:(np:Int)<=hi
     ·have t3:decide ((np:Int)<=hi)=true:=(by simpa using h3);have HR:Hid (Aj ⟨true,true,false,false,lo,hi,true⟩ t n np nf nv=true):=Hd (by unfold Aj;simp[Q2.out,Q3.out,h1,t2,h3]);clear h2;go_enter Tryz.func95,Tryz.ntmps95;go_wp2_with fail
      go_quiet (fail)
      go_wp2_with fail;go_ret
      exact⟨by rw[HR.out];first | rfl | (show Ending.returned (.bool (decide ((np:Int)<=hi)))=_;rw[t3]),by first | exact HB.out | exact Au HB.out _ | exact HB.out.drew⟩
     ·have t3:decide ((np:Int)<=hi)=false:=(by simpa using h3);have HR:Hid (Aj ⟨true,true,false,false,lo,hi,true⟩ t n np nf nv=false):=Hd (by unfold Aj;simp[Q2.out,Q3.out,t2,h3]);clear h2;go_enter Tryz.func95,Tryz.ntmps95;go_wp2_with fail
      go_quiet (fail)
      go_wp2_with fail;go_ret
      exact⟨by rw[HR.out];first | rfl | (show Ending.returned (.bool (decide ((np:Int)<=hi)))=_;rw[t3]),by first | exact HB.out | exact Au HB.out _ | exact HB.out.drew⟩
   ·have t1:decide (lo<=(np:Int))=false:=(by simpa using h1);have t1b:(np:Int)<lo:=(by omega);have HR:Hid (Aj ⟨true,true,false,false,lo,hi,true⟩ t n np nf nv=false):=Hd (by unfold Aj;simp[Q2.out,Q3.out,h1]);go_enter Tryz.func95,Tryz.ntmps95;go_wp2_with fail
    go_quiet (fail)
    go_wp2_with fail;go_ret
    exact⟨by rw[HR.out];first | rfl | (show Ending.returned (.bool (decide ((np:Int)<=hi)))=_;rw[t3]),by first | exact HB.out | exact Au HB.out _ | exact HB.out.drew⟩
  ·have e3:0<nv:=by omega
   have z3:decide ((0:Int)<(nv:Int))=true:=by simp;omega
   have Q3:=Hd e3;clear q3;have HR:Hid (Aj ⟨true,true,false,false,lo,hi,true⟩ t n np nf nv=false):=Hd (by unfold Aj;simp[Q2.out,Q3.out]);go_enter Tryz.func95,Tryz.ntmps95;go_wp2_with fail;go_ret
   exact⟨by rw[HR.out];first | rfl | (show Ending.returned (.bool (decide ((np:Int)<=hi)))=_;rw[t3]),by first | exact HB.out | exact Au HB.out _ | exact HB.out.drew⟩
 ·have e2:0<nf:=by omega
  have z2:decide ((0:Int)<(nf:Int))=true:=by simp;omega
  have Q2:=Hd e2;clear q2;have HR:Hid (Aj ⟨true,true,false,false,lo,hi,true⟩ t n np nf nv=false):=Hd (by unfold Aj;simp[Q2.out]);go_enter Tryz.func95,Tryz.ntmps95;go_wp2_with fail;go_ret
  exact⟨by rw[HR.out];first | rfl | (show Ending.returned (.bool (decide ((np:Int)<=hi)))=_;rw[t3]),by first | exact HB.out | exact Au HB.out _ | exact HB.out.drew⟩
theorem V0 {w:World} {b o np nf nv c1 c2 c3:Nat} {t:ByteArray} {n lo hi:Int} {A1 A2 A3:Option Addr} (x1:w.cell? ⟨b,o+1,none⟩=some (.string t)) (_x2:w.cell? ⟨b,o+2,none⟩=some (.int .i64 n)) (x3:w.cell? ⟨b,o+3,none⟩=some (.slice A1 np c1)) (x4:w.cell? ⟨b,o+4,none⟩=some (.slice A2 nf c2)) (x5:w.cell? ⟨b,o+5,none⟩=some (.slice A3 nv c3)) :
  Calls Tryz.prog 95 #[.agg #[.bool false,.bool true,.bool false,.bool false,.int .i64 lo,.int .i64 hi],.pointer (some ⟨b,o,none⟩)] w fun e w'=>e=.returned (.bool (Aj ⟨false,true,false,false,lo,hi,true⟩ t n np nf nv))/\Below w.heap.size w w':=by
 have hlt:b<w.heap.size:=World.block_lt_of_cell? _ _ x1;have HB:Hid (Below w.heap.size w (w.alloc (.cells #[.bool false,.bool true,.bool false,.bool false,.int .i64 lo,.int .i64 hi] 138))):=Hd ((Below.refl _ _).alloc (Nat.le_refl _) _)
 cases q0:t.toList with
 | nil=>
  have e0:(t.toList == [])=true:=by rw[q0];rfl
  have Q0:=Hd e0;by_cases q2:nf=0
  ·have e2:¬ 0<nf:=by omega
   have z2:decide ((0:Int)<(nf:Int))=false:=by simp;omega
   have Q2:=Hd e2;clear q2;by_cases q3:nv=0
   ·have e3:¬ 0<nv:=(by omega);have z3:decide ((0:Int)<(nv:Int))=false:=(by simp;omega);have Q3:=Hd e3;clear q3;by_cases h1:lo<=(np:Int)
    ·by_cases h2:hi = -1
     ·have t2:(hi == -1)=true:=(by simpa using h2);have HR:Hid (Aj ⟨false,true,false,false,lo,hi,true⟩ t n np nf nv=true):=Hd (by unfold Aj;simp[Q0.out,Q2.out,Q3.out,h1,h2]);clear h2;go_enter Tryz.func95,Tryz.ntmps95;go_wp2_with fail
      go_quiet (fail)
      go_wp2_with fail;go_ret
      exact⟨by rw[HR.out];first | rfl | (show Ending.returned (.bool (decide ((np:Int)<=hi)))=_;rw[t3]),by first | exact HB.out | exact Au HB.out _ | exact HB.out.drew⟩
     ·have t2:(hi == -1)=false:=(by simpa using h2);by_cases h3:(np:Int)<=hi
      ·have t3:decide ((np:Int)<=hi)=true:=(by simpa using h3);have HR:Hid (Aj ⟨false,true,false,false,lo,hi,true⟩ t n np nf nv=true):=Hd (by unfold Aj;simp[Q0.out,Q2.out,Q3.out,h1,t2,h3]);clear h2;go_enter Tryz.func95,Tryz.ntmps95;go_wp2_with fail
       go_quiet (fail)
       go_wp2_with fail;go_ret
       exact⟨by rw[HR.out];first | rfl | (show Ending.returned (.bool (decide ((np:Int)<=hi)))=_;rw[t3]),by first | exact HB.out | exact Au HB.out _ | exact HB.out.drew⟩
      ·have t3:decide ((np:Int)<=hi)=false:=(by simpa using h3);have HR:Hid (Aj ⟨false,true,false,false,lo,hi,true⟩ t n np nf nv=false):=Hd (by unfold Aj;simp[Q0.out,Q2.out,Q3.out,t2,h3]);clear h2;go_enter Tryz.func95,Tryz.ntmps95;go_wp2_with fail
       go_quiet (fail)
       go_wp2_with fail;go_ret
       exact⟨by rw[HR.out];first | rfl | (show Ending.returned (.bool (decide ((np:Int)<=hi)))=_;rw[t3]),by first | exact HB.out | exact Au HB.out _ | exact HB.out.drew⟩
    ·have t1:decide (lo<=(np:Int))=false:=(by simpa using h1);have t1b:(np:Int)<lo:=(by omega);have HR:Hid (Aj ⟨false,true,false,false,lo,hi,true⟩ t n np nf nv=false):=Hd (by unfold Aj;simp[Q0.out,Q2.out,Q3.out,h1]);go_enter Tryz.func95,Tryz.ntmps95;go_wp2_with fail
     go_quiet (fail)
     go_wp2_with fail;go_ret
     exact⟨by rw[HR.out];first | rfl | (show Ending.returned (.bool (decide ((np:Int)<=hi)))=_;rw[t3]),by first | exact HB.out | exact Au HB.out _ | exact HB.out.drew⟩
   ·have e3:0<nv:=(by omega);have z3:decide ((0:Int)<(nv:Int))=true:=(by simp;omega);have Q3:=Hd e3;clear q3;have HR:Hid (Aj ⟨false,true,false,false,lo,hi,true⟩ t n np nf nv=false):=Hd (by unfold Aj;simp[Q0.out,Q2.out,Q3.out]);go_enter Tryz.func95,Tryz.ntmps95;go_wp2_with fail;go_ret
    exact⟨by rw[HR.out];first | rfl | (show Ending.returned (.bool (decide ((np:Int)<=hi)))=_;rw[t3]),by first | exact HB.out | exact Au HB.out _ | exact HB.out.drew⟩
  ·have e2:0<nf:=by omega
   have z2:decide ((0:Int)<(nf:Int))=true:=by simp;omega
   have Q2:=Hd e2;clear q2;have HR:Hid (Aj ⟨false,true,false,false,lo,hi,true⟩ t n np nf nv=false):=Hd (by unfold Aj;simp[Q0.out,Q2.out]);go_enter Tryz.func95,Tryz.ntmps95;go_wp2_with fail;go_ret
   exact⟨by rw[HR.out];first | rfl | (show Ending.returned (.bool (decide ((np:Int)<=hi)))=_;rw[t3]),by first | exact HB.out | exact Au HB.out _ | exact HB.out.drew⟩
 | cons hd tl=>
  have e0:(t.toList == [])=false:=by rw[q0];rfl
  have Q0:=Hd e0;have HR:Hid (Aj ⟨false,true,false,false,lo,hi,true⟩ t n np nf nv=false):=Hd (by unfold Aj;simp[Q0.out]);go_enter Tryz.func95,Tryz.ntmps95;go_wp2_with fail;go_ret
  exact⟨by rw[HR.out];first | rfl | (show Ending.returned (.bool (decide ((np:Int)<=hi)))=_;rw[t3]),by first | exact HB.out | exact Au HB.out _ | exact HB.out.drew⟩
theorem Vy {w:World} {b o np nf nv c1 c2 c3:Nat} {t:ByteArray} {n lo hi:Int} {A1 A2 A3:Option Addr} (x1:w.cell? ⟨b,o+1,none⟩=some (.string t)) (x2:w.cell? ⟨b,o+2,none⟩=some (.int .i64 n)) (x3:w.cell? ⟨b,o+3,none⟩=some (.slice A1 np c1)) (x4:w.cell? ⟨b,o+4,none⟩=some (.slice A2 nf c2)) (_x5:w.cell? ⟨b,o+5,none⟩=some (.slice A3 nv c3)) :
  Calls Tryz.prog 95 #[.agg #[.bool false,.bool false,.bool false,.bool true,.int .i64 lo,.int .i64 hi],.pointer (some ⟨b,o,none⟩)] w fun e w'=>e=.returned (.bool (Aj ⟨false,false,false,true,lo,hi,true⟩ t n np nf nv))/\Below w.heap.size w w':=by
 have hlt:b<w.heap.size:=World.block_lt_of_cell? _ _ x1;have HB:Hid (Below w.heap.size w (w.alloc (.cells #[.bool false,.bool false,.bool false,.bool true,.int .i64 lo,.int .i64 hi] 138))):=Hd ((Below.refl _ _).alloc (Nat.le_refl _) _)
 cases q0:t.toList with
 | nil=>
  have e0:(t.toList == [])=true:=by rw[q0];rfl
  have Q0:=Hd e0;by_cases q1:n=0
  ·have e1:(n != 0)=false:=by simpa using q1
   have Q1:=Hd q1;clear q1;by_cases q2:nf=0
   ·have e2:¬ 0<nf:=(by omega);have z2:decide ((0:Int)<(nf:Int))=false:=(by simp;omega);have Q2:=Hd e2;clear q2;by_cases h1:lo<=(np:Int)
    ·by_cases h2:hi = -1
     ·have t2:(hi == -1)=true:=(by simpa using h2);have HR:Hid (Aj ⟨false,false,false,true,lo,hi,true⟩ t n np nf nv=true):=Hd (by unfold Aj;simp[Q0.out,Q1.out,Q2.out,h1,h2]);clear h2;go_enter Tryz.func95,Tryz.ntmps95;go_wp2_with fail
      go_quiet (fail)
      go_wp2_with fail;go_ret
      exact⟨by rw[HR.out];first | rfl | (show Ending.returned (.bool (decide ((np:Int)<=hi)))=_;rw[t3]),by first | exact HB.out | exact Au HB.out _ | exact HB.out.drew⟩
     ·have t2:(hi == -1)=false:=(by simpa using h2);by_cases h3:(np:Int)<=hi
      ·have t3:decide ((np:Int)<=hi)=true:=(by simpa using h3);have HR:Hid (Aj ⟨false,false,false,true,lo,hi,true⟩ t n np nf nv=true):=Hd (by unfold Aj;simp[Q0.out,Q1.out,Q2.out,h1,t2,h3]);clear h2;go_enter Tryz.func95,Tryz.ntmps95;go_wp2_with fail
       go_quiet (fail)
       go_wp2_with fail;go_ret
       exact⟨by rw[HR.out];first | rfl | (show Ending.returned (.bool (decide ((np:Int)<=hi)))=_;rw[t3]),by first | exact HB.out | exact Au HB.out _ | exact HB.out.drew⟩
      ·have t3:decide ((np:Int)<=hi)=false:=(by simpa using h3);have HR:Hid (Aj ⟨false,false,false,true,lo,hi,true⟩ t n np nf nv=false):=Hd (by unfold Aj;simp[Q0.out,Q1.out,Q2.out,t2,h3]);clear h2;go_enter Tryz.func95,Tryz.ntmps95;go_wp2_with fail
       go_quiet (fail)
       go_wp2_with fail;go_ret
       exact⟨by rw[HR.out];first | rfl | (show Ending.returned (.bool (decide ((np:Int)<=hi)))=_;rw[t3]),by first | exact HB.out | exact Au HB.out _ | exact HB.out.drew⟩
    ·have t1:decide (lo<=(np:Int))=false:=(by simpa using h1);have t1b:(np:Int)<lo:=(by omega);have HR:Hid (Aj ⟨false,false,false,true,lo,hi,true⟩ t n np nf nv=false):=Hd (by unfold Aj;simp[Q0.out,Q1.out,Q2.out,h1]);go_enter Tryz.func95,Tryz.ntmps95;go_wp2_with fail
     go_quiet (fail)
     go_wp2_with fail;go_ret
     exact⟨by rw[HR.out];first | rfl | (show Ending.returned (.bool (decide ((np:Int)<=hi)))=_;rw[t3]),by first | exact HB.out | exact Au HB.out _ | exact HB.out.drew⟩
   ·have e2:0<nf:=(by omega);have z2:decide ((0:Int)<(nf:Int))=true:=(by simp;omega);have Q2:=Hd e2;clear q2;have HR:Hid (Aj ⟨false,false,false,true,lo,hi,true⟩ t n np nf nv=false):=Hd (by unfold Aj;simp[Q0.out,Q1.out,Q2.out]);go_enter Tryz.func95,Tryz.ntmps95;go_wp2_with fail;go_ret
    exact⟨by rw[HR.out];first | rfl | (show Ending.returned (.bool (decide ((np:Int)<=hi)))=_;rw[t3]),by first | exact HB.out | exact Au HB.out _ | exact HB.out.drew⟩
  ·have e1:(n != 0)=true:=by simpa using q1
   have Q1:=Hd q1;have HR:Hid (Aj ⟨false,false,false,true,lo,hi,true⟩ t n np nf nv=false):=Hd (by unfold Aj;simp[Q0.out,Q1.out]);clear q1;go_enter Tryz.func95,Tryz.ntmps95;go_wp2_with fail;go_ret
   exact⟨by rw[HR.out];first | rfl | (show Ending.returned (.bool (decide ((np:Int)<=hi)))=_;rw[t3]),by first | exact HB.out | exact Au HB.out _ | exact HB.out.drew⟩
 | cons hd tl=>
  have e0:(t.toList == [])=false:=by rw[q0];rfl
  have Q0:=Hd e0;have HR:Hid (Aj ⟨false,false,false,true,lo,hi,true⟩ t n np nf nv=false):=Hd (by unfold Aj;simp[Q0.out]);go_enter Tryz.func95,Tryz.ntmps95;go_wp2_with fail;go_ret
  exact⟨by rw[HR.out];first | rfl | (show Ending.returned (.bool (decide ((np:Int)<=hi)))=_;rw[t3]),by first | exact HB.out | exact Au HB.out _ | exact HB.out.drew⟩
theorem Vz {w:World} {b o np nf nv c1 c2 c3:Nat} {t:ByteArray} {n lo hi:Int} {A1 A2 A3:Option Addr} (x1:w.cell? ⟨b,o+1,none⟩=some (.string t)) (x2:w.cell? ⟨b,o+2,none⟩=some (.int .i64 n)) (x3:w.cell? ⟨b,o+3,none⟩=some (.slice A1 np c1)) (_x4:w.cell? ⟨b,o+4,none⟩=some (.slice A2 nf c2)) (x5:w.cell? ⟨b,o+5,none⟩=some (.slice A3 nv c3)) :
  Calls Tryz.prog 95 #[.agg #[.bool false,.bool false,.bool true,.bool false,.int .i64 lo,.int .i64 hi],.pointer (some ⟨b,o,none⟩)] w fun e w'=>e=.returned (.bool (Aj ⟨false,false,true,false,lo,hi,true⟩ t n np nf nv))/\Below w.heap.size w w':=by
 have hlt:b<w.heap.size:=World.block_lt_of_cell? _ _ x1;have HB:Hid (Below w.heap.size w (w.alloc (.cells #[.bool false,.bool false,.bool true,.bool false,.int .i64 lo,.int .i64 hi] 138))):=Hd ((Below.refl _ _).alloc (Nat.le_refl _) _)
 cases q0:t.toList with
 | nil=>
  have e0:(t.toList == [])=true:=by rw[q0];rfl
  have Q0:=Hd e0;by_cases q1:n=0
  ·have e1:(n != 0)=false:=by simpa using q1
   have Q1:=Hd q1;clear q1;by_cases q3:nv=0
   ·have e3:¬ 0<nv:=(by omega);have z3:decide ((0:Int)<(nv:Int))=false:=(by simp;omega);have Q3:=Hd e3;clear q3;by_cases h1:lo<=(np:Int)
    ·by_cases h2:hi = -1
     ·have t2:(hi == -1)=true:=(by simpa using h2);have HR:Hid (Aj ⟨false,false,true,false,lo,hi,true⟩ t n np nf nv=true):=Hd (by unfold Aj;simp[Q0.out,Q1.out,Q3.out,h1,h2]);clear h2;go_enter Tryz.func95,Tryz.ntmps95;go_wp2_with fail
      go_quiet (fail)
      go_wp2_with fail;go_ret
      exact⟨by rw[HR.out];first | rfl | (show Ending.returned (.bool (decide ((np:Int)<=hi)))=_;rw[t3]),by first | exact HB.out | exact Au HB.out _ | exact HB.out.drew⟩
     ·have t2:(hi == -1)=false:=(by simpa using h2);by_cases h3:(np:Int)<=hi
      ·have t3:decide ((np:Int)<=hi)=true:=(by simpa using h3);have HR:Hid (Aj ⟨false,false,true,false,lo,hi,true⟩ t n np nf nv=true):=Hd (by unfold Aj;simp[Q0.out,Q1.out,Q3.out,h1,t2,h3]);clear h2;go_enter Tryz.func95,Tryz.ntmps95;go_wp2_with fail
       go_quiet (fail)
       go_wp2_with fail;go_ret
       exact⟨by rw[HR.out];first | rfl | (show Ending.returned (.bool (decide ((np:Int)<=hi)))=_;rw[t3]),by first | exact HB.out | exact Au HB.out _ | exact HB.out.drew⟩
      ·have t3:decide ((np:Int)<=hi)=false:=(by simpa using h3);have HR:Hid (Aj ⟨false,false,true,false,lo,hi,true⟩ t n np nf nv=false):=Hd (by unfold Aj;simp[Q0.out,Q1.out,Q3.out,t2,h3]);clear h2;go_enter Tryz.func95,Tryz.ntmps95;go_wp2_with fail
       go_quiet (fail)
       go_wp2_with fail;go_ret
       exact⟨by rw[HR.out];first | rfl | (show Ending.returned (.bool (decide ((np:Int)<=hi)))=_;rw[t3]),by first | exact HB.out | exact Au HB.out _ | exact HB.out.drew⟩
    ·have t1:decide (lo<=(np:Int))=false:=(by simpa using h1);have t1b:(np:Int)<lo:=(by omega);have HR:Hid (Aj ⟨false,false,true,false,lo,hi,true⟩ t n np nf nv=false):=Hd (by unfold Aj;simp[Q0.out,Q1.out,Q3.out,h1]);go_enter Tryz.func95,Tryz.ntmps95;go_wp2_with fail
     go_quiet (fail)
     go_wp2_with fail;go_ret
     exact⟨by rw[HR.out];first | rfl | (show Ending.returned (.bool (decide ((np:Int)<=hi)))=_;rw[t3]),by first | exact HB.out | exact Au HB.out _ | exact HB.out.drew⟩
   ·have e3:0<nv:=(by omega);have z3:decide ((0:Int)<(nv:Int))=true:=(by simp;omega);have Q3:=Hd e3;clear q3;have HR:Hid (Aj ⟨false,false,true,false,lo,hi,true⟩ t n np nf nv=false):=Hd (by unfold Aj;simp[Q0.out,Q1.out,Q3.out]);go_enter Tryz.func95,Tryz.ntmps95;go_wp2_with fail;go_ret
    exact⟨by rw[HR.out];first | rfl | (show Ending.returned (.bool (decide ((np:Int)<=hi)))=_;rw[t3]),by first | exact HB.out | exact Au HB.out _ | exact HB.out.drew⟩
  ·have e1:(n != 0)=true:=by simpa using q1
   have Q1:=Hd q1;have HR:Hid (Aj ⟨false,false,true,false,lo,hi,true⟩ t n np nf nv=false):=Hd (by unfold Aj;simp[Q0.out,Q1.out]);clear q1;go_enter Tryz.func95,Tryz.ntmps95;go_wp2_with fail;go_ret
   exact⟨by rw[HR.out];first | rfl | (show Ending.returned (.bool (decide ((np:Int)<=hi)))=_;rw[t3]),by first | exact HB.out | exact Au HB.out _ | exact HB.out.drew⟩
 | cons hd tl=>
  have e0:(t.toList == [])=false:=by rw[q0];rfl
  have Q0:=Hd e0;have HR:Hid (Aj ⟨false,false,true,false,lo,hi,true⟩ t n np nf nv=false):=Hd (by unfold Aj;simp[Q0.out]);go_enter Tryz.func95,Tryz.ntmps95;go_wp2_with fail;go_ret
  exact⟨by rw[HR.out];first | rfl | (show Ending.returned (.bool (decide ((np:Int)<=hi)))=_;rw[t3]),by first | exact HB.out | exact Au HB.out _ | exact HB.out.drew⟩
theorem MapIs.putL {P:Program} {α:Type} {M:MK P α} {W:World} {b n:Nat} {F:ByteArray->Option α} (h:MapIs M W b n F) (hn:n<maxLen) (s:ByteArray) (hs:s.size<=maxLen) (a:α) :
  ∃ w',(Instr.mapUpdate M.T (.map (some b)) (.string s) (M.val a)).run P W=.ok () w'/\MapIs M w' b (n+1) (Ho F s a)/\W.grownBy w' (some b):=by
 obtain⟨L,h,hL,hF⟩:=h;obtain⟨w',hrun,ho,hg⟩:=World.ownsMap.update h (Go.Maps.string_keyed M.hS) M.hT (Nat.lt_of_le_of_lt hL hn) (M.key s hs) (M.hR a);rw[M4 M L (s,a)] at ho;have ho2:=Pq ho;rw[G2] at ho2;refine⟨w',hrun,⟨_,ho2,?_,fun x=>?_⟩,hg⟩
 ·rw[Jf];have:=Oi L s;simp only;omega
 ·rw[Ib (s,a) x _ (by rw[F4];simp)];unfold Ho;simp only;by_cases e:s=x
  ·rw[if_pos e,if_pos e]
  ·rw[if_neg e,if_neg e,F4,if_neg e,hF]
def G1:MK Tryz.prog Unit where
 T:=186
 S:=9
 E:=193
 val:=fun _=>.agg #[]
 dat:=fun _=>.agg []
 zero:=()
 R:=fun v=>match v with
  | .agg ⟨[]⟩=>some (.agg [],[])
  | _=>none
 hR:=fun _=>rfl
 inv:=by
  intro v a ps h
  split at h
  ·rfl
  ·cases h
 hS:=Tryz.underlying9
 hT:=Tryz.underlying186
 hz:=Tryz.zeroValue193
end Go.Proofs.YtlpfpehegddcfaaGreatDoor
