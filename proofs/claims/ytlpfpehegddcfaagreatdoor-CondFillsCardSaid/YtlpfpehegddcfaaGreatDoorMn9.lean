import Derived.Test.YtlpfpehegddcfaaGreatDoorMn7
namespace Go.Proofs.YtlpfpehegddcfaaGreatDoor
set_option maxRecDepth 100000
set_option maxHeartbeats 64000000
open Go.RowKit
def TyPost (K:Nat→Prop) (w:World) (t:Ty):Ending→World→Prop:=fun e w'=>∃ rs,e=.returned (.agg rs.toArray)∧RepT (fun b=>K b∨w.heap.size≤b) w' t rs∧Below w.heap.size w w'
theorem one_cells {K:Nat→Prop} {w:World} {t:Ty} {cs:List Value} (h:RepT K w t cs):∀ u∈cs,u.oneCell'=true:=by
 obtain⟨k,s,n,ps,fs,vs⟩:=t
 obtain⟨A,c,A',c',A'',c'',rfl,-⟩:=h.inv
 intro u hu
 simp only[cells6T,List.mem_cons,List.not_mem_nil,or_false] at hu
 rcases hu with rfl | rfl | rfl | rfl | rfl | rfl <;> rfl
theorem row_cells {K:Nat→Prop} {w:World} {l:List Ty} {b o:Nat} (h:∀ i (h:i<l.length),AtT K w l[i] b (o+i*6)) :
  ∃ news:List Value,news.length=l.length*6∧(∀ j u,news[j]?=some u→w.cell? ⟨b,o+j,none⟩=some u)∧(∀ u∈news,u.oneCell'=true)∧∀ i (h:i<l.length),∃ cs,RepT K w l[i] cs∧∀ j u,cs[j]?=some u→news[i*6+j]?=some u:=by
 have key:∀ n,n≤l.length→∃ news:List Value,news.length=n*6∧(∀ j u,news[j]?=some u→w.cell? ⟨b,o+j,none⟩=some u)∧(∀ u∈news,u.oneCell'=true)∧∀ i (h:i<l.length),i<n→∃ cs,RepT K w l[i] cs∧∀ j u,cs[j]?=some u→news[i*6+j]?=some u:=by
  intro n
  induction n with
  | zero=>intro _;exact⟨[],rfl,fun j u h=>by simp at h,fun u h=>by simp at h,fun i _ h=>absurd h (by omega)⟩
  | succ n ih=>
   intro hn
   obtain⟨news,h1,h2,h3,h4⟩:=ih (by omega)
   obtain⟨cs,h5,h6⟩:=h n (by omega)
   have h7:=h6.six
   refine⟨news++cs,by rw[List.length_append];omega,fun j u hj=>?_,fun u hu=>?_,fun i hi hin=>?_⟩
   ·by_cases hlt:j<news.length
    ·rw[List.getElem?_append_left hlt] at hj;exact h2 j u hj
    ·rw[List.getElem?_append_right (by omega)] at hj
     have:=h5 _ _ hj
     rw[←this];congr 2;omega
   ·rcases List.mem_append.1 hu with hu | hu
    ·exact h3 u hu
    ·exact one_cells h6 u hu
   ·by_cases hlt:i<n
    ·obtain⟨cs',h8,h9⟩:=h4 i hi hlt
     refine⟨cs',h8,fun j u hj=>?_⟩
     have h10:=h9 j u hj
     rw[List.getElem?_append_left (List.getElem?_eq_some_iff.1 h10).1];exact h10
    ·obtain rfl:i=n:=by omega
     refine⟨cs,h6,fun j u hj=>?_⟩
     rw[List.getElem?_append_right (by omega),show i*6+j - news.length=j from by omega];exact hj
 obtain⟨news,h1,h2,h3,h4⟩:=key l.length (Nat.le_refl _)
 exact⟨news,h1,h2,h3,fun i hi=>h4 i hi hi⟩
theorem sliceTy:Tryz.prog.underlying 22=some (.slice 26):=by kernel_rfl
theorem OutT.list {K:Nat→Prop} {w0 w:World} {v:Value} {ts:List Ty} (h:OutT K w0 w v ts) (hlo:∀ b,K b→b<w0.heap.size) (hb:Below w0.heap.size w0 w) (hl:ts.length≤1000000000000000) :
  ∃ A c,v=.slice A ts.length c∧ListT (fun b=>K b∨w0.heap.size≤b) w ts A c:=by
 rcases InT.of_out h with ⟨hv,hn⟩ | ⟨g,c,hv,hg,hi⟩
 ·subst hn
  exact⟨none,0,hv,⟨0,0,⟨by simp,by simp,fun _=>rfl,fun h=>absurd h (by simp)⟩,fun i h=>absurd h (by simp)⟩⟩
 ·refine⟨_,c,hv,⟨g,0,⟨hi.le,hl,(fun h=>by cases h),fun _=>⟨rfl,.inr hg⟩⟩,fun i hi2=>?_⟩⟩
  obtain⟨cs,h4,h5⟩:=hi.reps i _ (List.getElem?_eq_getElem hi2)
  refine⟨cs,fun j u hj=>by rw[Nat.zero_add];exact h5 j u hj,RepT.keep (fun _ h=>.inl h) (fun b o v hk hc=>?_) _ _ h4⟩
  exact (World.cell?_of_block (hb.block b (hlo b hk))).trans hc
theorem OutT.lit {K:Nat→Prop} {w0 w:World} {t:Ty} {cs:List Value} {g:Nat} (ht:RepT K w0 t cs) (hg:w0.heap.size≤g) (hh:w.heap[g]?=some (.cells cs.toArray 26 (0,0))):OutT K w0 w (.slice (some ⟨g,0,none⟩) 1 1) [t]:=by
 have h6:=ht.six
 refine⟨⟨cs,⟨by rw[h6];rfl,.inr ⟨g,1,cs.toArray,rfl,hg,hh,Nat.le_refl _,by decide,by rw[List.size_toArray,h6],?_⟩⟩,fun i hi=>?_⟩⟩
 ·show cs.take (1*6)=cs
  exact List.take_of_length_le (by omega)
 ·have:i=0:=by simpa using hi
  subst this
  exact⟨cs,ht,fun j u hj=>by rw[Nat.zero_mul,Nat.zero_add];exact hj⟩
theorem list_lit {K:Nat→Prop} {w W:World} {t:Ty} {cs:List Value} {g:Nat} (ht:RepT K w t cs) (hb:Below w.heap.size w W) (hlo:∀ b,K b→b<w.heap.size) (hh:W.heap[g]?=some (.cells cs.toArray 26 (0,0))):ListT (fun b=>K b∨b=g) W [t] (some ⟨g,0,none⟩) 1:=by
 refine⟨g,0,⟨by simp,by simp,(fun h=>by cases h),fun _=>⟨rfl,.inr rfl⟩⟩,fun i hi=>?_⟩
 have:i=0:=by simpa using hi
 subst this
 refine⟨cs,fun j u hj=>?_,RepT.keep (fun _ h=>.inl h) (fun b o v hk hc=>(World.cell?_of_block (hb.block b (hlo b hk))).trans hc) _ _ ht⟩
 rw[Ch hh];simpa using hj
structure ButG (O:Nat→Prop) (w w':World):Prop where
 os:w'.os=w.os
 tape:w'.tape=w.tape
 output:w'.output=w.output
 size:w.heap.size≤w'.heap.size
 block:∀ k,k<w.heap.size→¬ O k→w'.heap[k]?=w.heap[k]?
theorem ButG.refl (O:Nat→Prop) (w:World):ButG O w w:=⟨rfl,rfl,rfl,Nat.le_refl _,fun _ _ _=>rfl⟩
theorem ButG.trans {O O':Nat→Prop} {a b c:World} (h:ButG O a b) (h':ButG O' b c) (ho:∀ x,O' x→O x∨a.heap.size≤x):ButG O a c:=
 ⟨h'.os.trans h.os,h'.tape.trans h.tape,h'.output.trans h.output,Nat.le_trans h.size h'.size,fun k hk hn=>(h'.block k (Nat.lt_of_lt_of_le hk h.size) fun e=>(ho k e).elim hn (by omega)).trans (h.block k hk hn)⟩
theorem ButG.of_below {O:Nat→Prop} {a b:World} (h:Below a.heap.size a b):ButG O a b:=⟨h.os,h.tape,h.output,h.size,fun k hk _=>h.block k hk⟩
theorem ButG.below {O:Nat→Prop} {a b:World} {B:Nat} (h:ButG O a b) (hB:B≤a.heap.size) (ho:∀ x,O x→B≤x):Below B a b:=⟨h.os,h.tape,h.output,h.size,fun k hk=>h.block k (by omega) fun e=>by have:=ho k e;omega⟩
theorem ButG.grown {O:Nat→Prop} {a w w':World} {row:Option Nat} (h:ButG O a w) (hg:w.grownBy w' row) (hr:∀ k,row=some k→O k∨a.heap.size≤k):ButG O a w':=
 ⟨hg.os.trans h.os,hg.tape.trans h.tape,hg.output.trans h.output,Nat.le_trans h.size hg.size,fun k hk hn=>(hg.block k (Nat.lt_of_lt_of_le hk h.size) fun e=>(hr k e.symm).elim hn (by omega)).trans (h.block k hk hn)⟩
theorem ButG.cell {O:Nat→Prop} {a b:World} (h:ButG O a b) {p:Addr} {v:Value} (hp:¬ O p.block) (hc:a.cell? p=some v):b.cell? p=some v:=
 (World.cell?_of_block (h.block p.block (World.block_lt_of_cell? _ _ hc) hp)).trans hc
theorem RepT.but {O K K':Nat→Prop} {a b:World} {t:Ty} {cs:List Value} (h:RepT K a t cs) (hb:ButG O a b) (hk:∀ x,K x→¬ O x∧K' x):RepT K' b t cs:=
 RepT.keep (fun x hx=>(hk x hx).2) (fun x _ _ hx hc=>hb.cell (hk x hx).1 hc) t cs h
theorem seeL_is (h:Kinds):∀ l:List Ty,seeL h l=⟨h.a || hasK 3 l,h.u || hasK 2 l,h.n || hasK 7 l,h.s || hasK 8 l⟩
 | []=>by simp[seeL,hasK]
 | t :: l=>by
  show seeL (seeK h t.k) l=_
  rw[seeL_is (seeK h t.k) l]
  simp[seeK,hasK,Bool.or_assoc]
theorem seeL_kinds (l:List Ty):seeL ⟨false,false,false,false⟩ l=kindsOf l:=by
 rw[seeL_is]
 simp[kindsOf]
def SortP:Prop:=∀ (K:Nat→Prop) (w0 w:World) (g c:Nat) (l:List Ty),InT K w0 w g c l→Below w0.heap.size w0 w→w0.heap.size≤g→l.length≤1099511627776 →
 Calls Tryz.prog 100 #[.slice (some ⟨g,0,none⟩) l.length c,.func (.func 101) #[] #[]] w fun e w'=>e=.returned (.tuple #[])∧Below w0.heap.size w0 w'∧∃ s,Wk s∧(∀ x,x∈s↔x∈l)∧s.length=l.length∧InT K w0 w' g c s
def SortN:Prop:=∀ (w:World),Calls Tryz.prog 100 #[.slice none 0 0,.func (.func 101) #[] #[]] w fun e w'=>e=.returned (.tuple #[])∧Below w.heap.size w w'
def CompP:Prop:=∀ (K:Nat→Prop) (w0 w:World) (g c:Nat) (s:List Ty),InT K w0 w g c s→Below w0.heap.size w0 w→w0.heap.size≤g→s.length≤1099511627776 →
 Calls Tryz.prog 102 #[.slice (some ⟨g,0,none⟩) s.length c,.func (.func 103) #[] #[]] w fun e w'=>e=.returned (.slice (some ⟨g,0,none⟩) (dedupT s).length c)∧Below w0.heap.size w0 w'∧InT K w0 w' g c (dedupT s)
def CompN:Prop:=∀ (w:World),Calls Tryz.prog 102 #[.slice none 0 0,.func (.func 103) #[] #[]] w fun e w'=>e=.returned (.slice none 0 0)∧Below w.heap.size w w'
theorem clip_any (A:Option Addr) (n c:Nat) (w:World) (h:n≤c):Calls Tryz.prog 105 #[.slice A n c] w fun e w'=>e=.returned (.slice A n n)∧w'=w:=by
 go_enter Tryz.func105,Tryz.ntmps105
 go_wp2_with fail
 go_ret
 exact⟨rfl,rfl⟩
theorem filter_take {l:List Ty} {p:Ty→Bool} {i:Nat} (h:i<l.length):(l.take (i+1)).filter p=(l.take i).filter p++(if p l[i] then [l[i]] else []):=by
 rw[List.take_succ_eq_append_getElem h,List.filter_append]
 congr 1
 by_cases hp:p l[i] <;> simp[hp]
def UnionPost (K:Nat→Prop) (w:World) (l:List Ty):Ending→World→Prop:=fun e w'=>∃ cs,e=.returned (.agg cs.toArray)∧RepT (fun b=>K b∨w.heap.size≤b) w' (unionT l) cs∧Below w.heap.size w w'
structure KeepR (K:Nat→Prop) (w1 wr:World) (gk g c:Nat) (h:Kinds) (ts:List Ty) (i:Nat) (F:List Ty):Prop where
 le:i≤ts.length
 f:F=(ts.take i).filter (keepT h)
 kb:KB wr gk h
 below:Below w1.heap.size w1 wr
 row:InT K w1 wr g c (F++ts.drop F.length)
theorem KeepR.fle {K:Nat→Prop} {w1 wr:World} {gk g c:Nat} {h:Kinds} {ts:List Ty} {i:Nat} {F:List Ty} (r:KeepR K w1 wr gk g c h ts i F):F.length≤i:=by
 rw[r.f]
 exact Nat.le_trans (List.length_filter_le ..) (by simp;omega)
theorem KeepR.at {K:Nat→Prop} {w1 wr:World} {gk g c:Nat} {h:Kinds} {ts:List Ty} {i:Nat} {F:List Ty} (r:KeepR K w1 wr gk g c h ts i F) (hi:i<ts.length):∃ cs,RepT K w1 ts[i] cs∧∀ (j:Nat) (u:Value),cs[j]?=some u→wr.cell? ⟨g,i*6+j,none⟩=some u:=by
 refine r.row.reps i _ ?_
 have:=r.fle
 rw[List.getElem?_append_right this,List.getElem?_drop,show F.length+(i - F.length)=i from by omega]
 exact List.getElem?_eq_getElem hi
theorem drewN_below {B:Nat} {a w:World} (h:Below B a w):∀ n,Below B a (w.drewN n)
 | 0=>h
 | n+1=>(drewN_below h n).drew
def fitsB (s:Shp) (t:ByteArray) (n:Int) (np nf nv:Nat):Bool:=
 !((!s.t && !(t.toList == [])) || (!s.n && n != 0) || (!s.f && decide (0<nf)) || (!s.v && decide (0<nv))) && (decide (s.lo≤(np:Int)) && (s.hi == -1 || decide ((np:Int)≤s.hi)))
theorem fits_ffff {w:World} {b o np nf nv c1 c2 c3:Nat} {t:ByteArray} {n lo hi:Int} {A1 A2 A3:Option Addr} (x1:w.cell? ⟨b,o+1,none⟩=some (.string t)) (x2:w.cell? ⟨b,o+2,none⟩=some (.int .i64 n)) (x3:w.cell? ⟨b,o+3,none⟩=some (.slice A1 np c1)) (x4:w.cell? ⟨b,o+4,none⟩=some (.slice A2 nf c2)) (x5:w.cell? ⟨b,o+5,none⟩=some (.slice A3 nv c3)) :
  Calls Tryz.prog 95 #[.agg #[.bool false,.bool false,.bool false,.bool false,.int .i64 lo,.int .i64 hi],.pointer (some ⟨b,o,none⟩)] w fun e w'=>e=.returned (.bool (fitsB ⟨false,false,false,false,lo,hi,true⟩ t n np nf nv))∧Below w.heap.size w w':=by
 have hlt:b<w.heap.size:=World.block_lt_of_cell? _ _ x1
 have HB:Hid (Below w.heap.size w (w.alloc (.cells #[.bool false,.bool false,.bool false,.bool false,.int .i64 lo,.int .i64 hi] 138))):=Hd ((Below.refl _ _).alloc (Nat.le_refl _) _)
 cases q0:t.toList with
 | nil=>
  have e0:(t.toList == [])=true:=by rw[q0];rfl
  have Q0:=Hd e0
  by_cases q1:n=0
  ·have e1:(n != 0)=false:=by simpa using q1
   have Q1:=Hd q1
   clear q1
   by_cases q2:nf=0
   ·have e2:¬ 0<nf:=by omega
    have z2:decide ((0:Int)<(nf:Int))=false:=by simp;omega
    have Q2:=Hd e2
    clear q2
    by_cases q3:nv=0
    ·have e3:¬ 0<nv:=by omega
     have z3:decide ((0:Int)<(nv:Int))=false:=by simp;omega
     have Q3:=Hd e3
     clear q3
     by_cases h1:lo≤(np:Int)
     ·by_cases h2:hi = -1
      ·have t2:(hi == -1)=true:=by simpa using h2
       have HR:Hid (fitsB ⟨false,false,false,false,lo,hi,true⟩ t n np nf nv=true):=Hd (by unfold fitsB;simp[Q0.out,Q1.out,Q2.out,Q3.out,h1,h2])
       clear h2
       go_enter Tryz.func95,Tryz.ntmps95
       go_wp2_with fail
       go_quiet (fail)
       go_wp2_with fail
       go_ret
       exact⟨by rw[HR.out];first | rfl | (show Ending.returned (.bool (decide ((np:Int)≤hi)))=_;rw[t3]),by first | exact HB.out | exact drewN_below HB.out _ | exact HB.out.drew⟩
      ·have t2:(hi == -1)=false:=by simpa using h2
       by_cases h3:(np:Int)≤hi
       ·have t3:decide ((np:Int)≤hi)=true:=by simpa using h3
        have HR:Hid (fitsB ⟨false,false,false,false,lo,hi,true⟩ t n np nf nv=true):=Hd (by unfold fitsB;simp[Q0.out,Q1.out,Q2.out,Q3.out,h1,t2,h3])
        clear h2
        go_enter Tryz.func95,Tryz.ntmps95
        go_wp2_with fail
        go_quiet (fail)
        go_wp2_with fail
        go_ret
        exact⟨by rw[HR.out];first | rfl | (show Ending.returned (.bool (decide ((np:Int)≤hi)))=_;rw[t3]),by first | exact HB.out | exact drewN_below HB.out _ | exact HB.out.drew⟩
       ·have t3:decide ((np:Int)≤hi)=false:=by simpa using h3
        have HR:Hid (fitsB ⟨false,false,false,false,lo,hi,true⟩ t n np nf nv=false):=Hd (by unfold fitsB;simp[Q0.out,Q1.out,Q2.out,Q3.out,t2,h3])
        clear h2
        go_enter Tryz.func95,Tryz.ntmps95
        go_wp2_with fail
        go_quiet (fail)
        go_wp2_with fail
        go_ret
        exact⟨by rw[HR.out];first | rfl | (show Ending.returned (.bool (decide ((np:Int)≤hi)))=_;rw[t3]),by first | exact HB.out | exact drewN_below HB.out _ | exact HB.out.drew⟩
     ·have t1:decide (lo≤(np:Int))=false:=by simpa using h1
      have t1b:(np:Int)<lo:=by omega
      have HR:Hid (fitsB ⟨false,false,false,false,lo,hi,true⟩ t n np nf nv=false):=Hd (by unfold fitsB;simp[Q0.out,Q1.out,Q2.out,Q3.out,h1])
      go_enter Tryz.func95,Tryz.ntmps95
      go_wp2_with fail
      go_quiet (fail)
      go_wp2_with fail
      go_ret
      exact⟨by rw[HR.out];first | rfl | (show Ending.returned (.bool (decide ((np:Int)≤hi)))=_;rw[t3]),by first | exact HB.out | exact drewN_below HB.out _ | exact HB.out.drew⟩
    ·have e3:0<nv:=by omega
     have z3:decide ((0:Int)<(nv:Int))=true:=by simp;omega
     have Q3:=Hd e3
     clear q3
     have HR:Hid (fitsB ⟨false,false,false,false,lo,hi,true⟩ t n np nf nv=false):=Hd (by unfold fitsB;simp[Q0.out,Q1.out,Q2.out,Q3.out])
     go_enter Tryz.func95,Tryz.ntmps95
     go_wp2_with fail
     go_ret
     exact⟨by rw[HR.out];first | rfl | (show Ending.returned (.bool (decide ((np:Int)≤hi)))=_;rw[t3]),by first | exact HB.out | exact drewN_below HB.out _ | exact HB.out.drew⟩
   ·have e2:0<nf:=by omega
    have z2:decide ((0:Int)<(nf:Int))=true:=by simp;omega
    have Q2:=Hd e2
    clear q2
    have HR:Hid (fitsB ⟨false,false,false,false,lo,hi,true⟩ t n np nf nv=false):=Hd (by unfold fitsB;simp[Q0.out,Q1.out,Q2.out])
    go_enter Tryz.func95,Tryz.ntmps95
    go_wp2_with fail
    go_ret
    exact⟨by rw[HR.out];first | rfl | (show Ending.returned (.bool (decide ((np:Int)≤hi)))=_;rw[t3]),by first | exact HB.out | exact drewN_below HB.out _ | exact HB.out.drew⟩
  ·have e1:(n != 0)=true:=by simpa using q1
   have Q1:=Hd q1
   have HR:Hid (fitsB ⟨false,false,false,false,lo,hi,true⟩ t n np nf nv=false):=Hd (by unfold fitsB;simp[Q0.out,Q1.out])
   clear q1
   go_enter Tryz.func95,Tryz.ntmps95
   go_wp2_with fail
   go_ret
   exact⟨by rw[HR.out];first | rfl | (show Ending.returned (.bool (decide ((np:Int)≤hi)))=_;rw[t3]),by first | exact HB.out | exact drewN_below HB.out _ | exact HB.out.drew⟩
 | cons hd tl=>
  have e0:(t.toList == [])=false:=by rw[q0];rfl
  have Q0:=Hd e0
  have HR:Hid (fitsB ⟨false,false,false,false,lo,hi,true⟩ t n np nf nv=false):=Hd (by unfold fitsB;simp[Q0.out])
  go_enter Tryz.func95,Tryz.ntmps95
  go_wp2_with fail
  go_ret
  exact⟨by rw[HR.out];first | rfl | (show Ending.returned (.bool (decide ((np:Int)≤hi)))=_;rw[t3]),by first | exact HB.out | exact drewN_below HB.out _ | exact HB.out.drew⟩
theorem fits_tfff {w:World} {b o np nf nv c1 c2 c3:Nat} {t:ByteArray} {n lo hi:Int} {A1 A2 A3:Option Addr} (x1:w.cell? ⟨b,o+1,none⟩=some (.string t)) (x2:w.cell? ⟨b,o+2,none⟩=some (.int .i64 n)) (x3:w.cell? ⟨b,o+3,none⟩=some (.slice A1 np c1)) (x4:w.cell? ⟨b,o+4,none⟩=some (.slice A2 nf c2)) (x5:w.cell? ⟨b,o+5,none⟩=some (.slice A3 nv c3)) :
  Calls Tryz.prog 95 #[.agg #[.bool true,.bool false,.bool false,.bool false,.int .i64 lo,.int .i64 hi],.pointer (some ⟨b,o,none⟩)] w fun e w'=>e=.returned (.bool (fitsB ⟨true,false,false,false,lo,hi,true⟩ t n np nf nv))∧Below w.heap.size w w':=by
 have hlt:b<w.heap.size:=World.block_lt_of_cell? _ _ x1
 have HB:Hid (Below w.heap.size w (w.alloc (.cells #[.bool true,.bool false,.bool false,.bool false,.int .i64 lo,.int .i64 hi] 138))):=Hd ((Below.refl _ _).alloc (Nat.le_refl _) _)
 by_cases q1:n=0
 ·have e1:(n != 0)=false:=by simpa using q1
  have Q1:=Hd q1
  clear q1
  by_cases q2:nf=0
  ·have e2:¬ 0<nf:=by omega
   have z2:decide ((0:Int)<(nf:Int))=false:=by simp;omega
   have Q2:=Hd e2
   clear q2
   by_cases q3:nv=0
   ·have e3:¬ 0<nv:=by omega
    have z3:decide ((0:Int)<(nv:Int))=false:=by simp;omega
    have Q3:=Hd e3
    clear q3
    by_cases h1:lo≤(np:Int)
    ·by_cases h2:hi = -1
     ·have t2:(hi == -1)=true:=by simpa using h2
      have HR:Hid (fitsB ⟨true,false,false,false,lo,hi,true⟩ t n np nf nv=true):=Hd (by unfold fitsB;simp[Q1.out,Q2.out,Q3.out,h1,h2])
      clear h2
      go_enter Tryz.func95,Tryz.ntmps95
      go_wp2_with fail
      go_quiet (fail)
      go_wp2_with fail
      go_ret
      exact⟨by rw[HR.out];first | rfl | (show Ending.returned (.bool (decide ((np:Int)≤hi)))=_;rw[t3]),by first | exact HB.out | exact drewN_below HB.out _ | exact HB.out.drew⟩
     ·have t2:(hi == -1)=false:=by simpa using h2
      by_cases h3:(np:Int)≤hi
      ·have t3:decide ((np:Int)≤hi)=true:=by simpa using h3
       have HR:Hid (fitsB ⟨true,false,false,false,lo,hi,true⟩ t n np nf nv=true):=Hd (by unfold fitsB;simp[Q1.out,Q2.out,Q3.out,h1,t2,h3])
       clear h2
       go_enter Tryz.func95,Tryz.ntmps95
       go_wp2_with fail
       go_quiet (fail)
       go_wp2_with fail
       go_ret
       exact⟨by rw[HR.out];first | rfl | (show Ending.returned (.bool (decide ((np:Int)≤hi)))=_;rw[t3]),by first | exact HB.out | exact drewN_below HB.out _ | exact HB.out.drew⟩
      ·have t3:decide ((np:Int)≤hi)=false:=by simpa using h3
       have HR:Hid (fitsB ⟨true,false,false,false,lo,hi,true⟩ t n np nf nv=false):=Hd (by unfold fitsB;simp[Q1.out,Q2.out,Q3.out,t2,h3])
       clear h2
       go_enter Tryz.func95,Tryz.ntmps95
       go_wp2_with fail
       go_quiet (fail)
       go_wp2_with fail
       go_ret
       exact⟨by rw[HR.out];first | rfl | (show Ending.returned (.bool (decide ((np:Int)≤hi)))=_;rw[t3]),by first | exact HB.out | exact drewN_below HB.out _ | exact HB.out.drew⟩
    ·have t1:decide (lo≤(np:Int))=false:=by simpa using h1
     have t1b:(np:Int)<lo:=by omega
     have HR:Hid (fitsB ⟨true,false,false,false,lo,hi,true⟩ t n np nf nv=false):=Hd (by unfold fitsB;simp[Q1.out,Q2.out,Q3.out,h1])
     go_enter Tryz.func95,Tryz.ntmps95
     go_wp2_with fail
     go_quiet (fail)
     go_wp2_with fail
     go_ret
     exact⟨by rw[HR.out];first | rfl | (show Ending.returned (.bool (decide ((np:Int)≤hi)))=_;rw[t3]),by first | exact HB.out | exact drewN_below HB.out _ | exact HB.out.drew⟩
   ·have e3:0<nv:=by omega
    have z3:decide ((0:Int)<(nv:Int))=true:=by simp;omega
    have Q3:=Hd e3
    clear q3
    have HR:Hid (fitsB ⟨true,false,false,false,lo,hi,true⟩ t n np nf nv=false):=Hd (by unfold fitsB;simp[Q1.out,Q2.out,Q3.out])
    go_enter Tryz.func95,Tryz.ntmps95
    go_wp2_with fail
    go_ret
    exact⟨by rw[HR.out];first | rfl | (show Ending.returned (.bool (decide ((np:Int)≤hi)))=_;rw[t3]),by first | exact HB.out | exact drewN_below HB.out _ | exact HB.out.drew⟩
  ·have e2:0<nf:=by omega
   have z2:decide ((0:Int)<(nf:Int))=true:=by simp;omega
   have Q2:=Hd e2
   clear q2
   have HR:Hid (fitsB ⟨true,false,false,false,lo,hi,true⟩ t n np nf nv=false):=Hd (by unfold fitsB;simp[Q1.out,Q2.out])
   go_enter Tryz.func95,Tryz.ntmps95
   go_wp2_with fail
   go_ret
   exact⟨by rw[HR.out];first | rfl | (show Ending.returned (.bool (decide ((np:Int)≤hi)))=_;rw[t3]),by first | exact HB.out | exact drewN_below HB.out _ | exact HB.out.drew⟩
 ·have e1:(n != 0)=true:=by simpa using q1
  have Q1:=Hd q1
  have HR:Hid (fitsB ⟨true,false,false,false,lo,hi,true⟩ t n np nf nv=false):=Hd (by unfold fitsB;simp[Q1.out])
  clear q1
  go_enter Tryz.func95,Tryz.ntmps95
  go_wp2_with fail
  go_ret
  exact⟨by rw[HR.out];first | rfl | (show Ending.returned (.bool (decide ((np:Int)≤hi)))=_;rw[t3]),by first | exact HB.out | exact drewN_below HB.out _ | exact HB.out.drew⟩
theorem fits_ttff {w:World} {b o np nf nv c1 c2 c3:Nat} {t:ByteArray} {n lo hi:Int} {A1 A2 A3:Option Addr} (x1:w.cell? ⟨b,o+1,none⟩=some (.string t)) (_x2:w.cell? ⟨b,o+2,none⟩=some (.int .i64 n)) (x3:w.cell? ⟨b,o+3,none⟩=some (.slice A1 np c1)) (x4:w.cell? ⟨b,o+4,none⟩=some (.slice A2 nf c2)) (x5:w.cell? ⟨b,o+5,none⟩=some (.slice A3 nv c3)) :
  Calls Tryz.prog 95 #[.agg #[.bool true,.bool true,.bool false,.bool false,.int .i64 lo,.int .i64 hi],.pointer (some ⟨b,o,none⟩)] w fun e w'=>e=.returned (.bool (fitsB ⟨true,true,false,false,lo,hi,true⟩ t n np nf nv))∧Below w.heap.size w w':=by
 have hlt:b<w.heap.size:=World.block_lt_of_cell? _ _ x1
 have HB:Hid (Below w.heap.size w (w.alloc (.cells #[.bool true,.bool true,.bool false,.bool false,.int .i64 lo,.int .i64 hi] 138))):=Hd ((Below.refl _ _).alloc (Nat.le_refl _) _)
 by_cases q2:nf=0
 ·have e2:¬ 0<nf:=by omega
  have z2:decide ((0:Int)<(nf:Int))=false:=by simp;omega
  have Q2:=Hd e2
  clear q2
  by_cases q3:nv=0
  ·have e3:¬ 0<nv:=by omega
   have z3:decide ((0:Int)<(nv:Int))=false:=by simp;omega
   have Q3:=Hd e3
   clear q3
   by_cases h1:lo≤(np:Int)
   ·by_cases h2:hi = -1
    ·have t2:(hi == -1)=true:=by simpa using h2
     have HR:Hid (fitsB ⟨true,true,false,false,lo,hi,true⟩ t n np nf nv=true):=Hd (by unfold fitsB;simp[Q2.out,Q3.out,h1,h2])
     clear h2
     go_enter Tryz.func95,Tryz.ntmps95
     go_wp2_with fail
     go_quiet (fail)
     go_wp2_with fail
     go_ret
     exact⟨by rw[HR.out];first | rfl | (show Ending.returned (.bool (decide ((np:Int)≤hi)))=_;rw[t3]),by first | exact HB.out | exact drewN_below HB.out _ | exact HB.out.drew⟩
    ·have t2:(hi == -1)=false:=by simpa using h2
     by_cases h3:(np:Int)≤hi
     ·have t3:decide ((np:Int)≤hi)=true:=by simpa using h3
      have HR:Hid (fitsB ⟨true,true,false,false,lo,hi,true⟩ t n np nf nv=true):=Hd (by unfold fitsB;simp[Q2.out,Q3.out,h1,t2,h3])
      clear h2
      go_enter Tryz.func95,Tryz.ntmps95
      go_wp2_with fail
      go_quiet (fail)
      go_wp2_with fail
      go_ret
      exact⟨by rw[HR.out];first | rfl | (show Ending.returned (.bool (decide ((np:Int)≤hi)))=_;rw[t3]),by first | exact HB.out | exact drewN_below HB.out _ | exact HB.out.drew⟩
     ·have t3:decide ((np:Int)≤hi)=false:=by simpa using h3
      have HR:Hid (fitsB ⟨true,true,false,false,lo,hi,true⟩ t n np nf nv=false):=Hd (by unfold fitsB;simp[Q2.out,Q3.out,t2,h3])
      clear h2
      go_enter Tryz.func95,Tryz.ntmps95
      go_wp2_with fail
      go_quiet (fail)
      go_wp2_with fail
      go_ret
      exact⟨by rw[HR.out];first | rfl | (show Ending.returned (.bool (decide ((np:Int)≤hi)))=_;rw[t3]),by first | exact HB.out | exact drewN_below HB.out _ | exact HB.out.drew⟩
   ·have t1:decide (lo≤(np:Int))=false:=by simpa using h1
    have t1b:(np:Int)<lo:=by omega
    have HR:Hid (fitsB ⟨true,true,false,false,lo,hi,true⟩ t n np nf nv=false):=Hd (by unfold fitsB;simp[Q2.out,Q3.out,h1])
    go_enter Tryz.func95,Tryz.ntmps95
    go_wp2_with fail
    go_quiet (fail)
    go_wp2_with fail
    go_ret
    exact⟨by rw[HR.out];first | rfl | (show Ending.returned (.bool (decide ((np:Int)≤hi)))=_;rw[t3]),by first | exact HB.out | exact drewN_below HB.out _ | exact HB.out.drew⟩
  ·have e3:0<nv:=by omega
   have z3:decide ((0:Int)<(nv:Int))=true:=by simp;omega
   have Q3:=Hd e3
   clear q3
   have HR:Hid (fitsB ⟨true,true,false,false,lo,hi,true⟩ t n np nf nv=false):=Hd (by unfold fitsB;simp[Q2.out,Q3.out])
   go_enter Tryz.func95,Tryz.ntmps95
   go_wp2_with fail
   go_ret
   exact⟨by rw[HR.out];first | rfl | (show Ending.returned (.bool (decide ((np:Int)≤hi)))=_;rw[t3]),by first | exact HB.out | exact drewN_below HB.out _ | exact HB.out.drew⟩
 ·have e2:0<nf:=by omega
  have z2:decide ((0:Int)<(nf:Int))=true:=by simp;omega
  have Q2:=Hd e2
  clear q2
  have HR:Hid (fitsB ⟨true,true,false,false,lo,hi,true⟩ t n np nf nv=false):=Hd (by unfold fitsB;simp[Q2.out])
  go_enter Tryz.func95,Tryz.ntmps95
  go_wp2_with fail
  go_ret
  exact⟨by rw[HR.out];first | rfl | (show Ending.returned (.bool (decide ((np:Int)≤hi)))=_;rw[t3]),by first | exact HB.out | exact drewN_below HB.out _ | exact HB.out.drew⟩
end Go.Proofs.YtlpfpehegddcfaaGreatDoor
