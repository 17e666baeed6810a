import Derived.Test.YtlpfpehegddcfaaGreatDoorMn12
import Derived.Test.YtlpfpehegddcfaaGreatDoorMn14
namespace Go.Proofs.YtlpfpehegddcfaaGreatDoor
set_option maxRecDepth 100000
set_option maxHeartbeats 64000000
open Go.RowKit
def KeepE {α:Type} (E:(Nat→Prop)→World→α→List Value→Prop):Prop:=∀ (K K':Nat→Prop) (w w':World) (a:α) (cs:List Value),(∀ b,K b→K' b∧(b<w.heap.size→w'.heap[b]?=w.heap[b]?))→E K w a cs→E K' w' a cs
structure OwnE {α:Type} (E:(Nat→Prop)→World→α→List Value→Prop) (T:TypeId) (z B:Nat) (w:World) (v:Value) (l:List α):Prop where
 ex:∃ vs,w.ownsRow B T z v l.length vs∧∀ i (h:i<l.length),∃ cs,E (fun b=>b<w.heap.size∧v.ownBlock≠some b) w l[i] cs∧cs.length=z∧∀ j u,cs[j]?=some u→vs[i*z+j]?=some u
theorem OwnE.nil {α:Type} {E:(Nat→Prop)→World→α→List Value→Prop} {T:TypeId} {z B:Nat} {w:World}:OwnE E T z B w (.slice none 0 0) []:=
 ⟨[],⟨by simp,.inl ⟨rfl,rfl⟩⟩,fun i h=>absurd h (by simp)⟩
structure Gro (v:Value) (w:World) (v':Value) (w':World):Prop where
 but:ButG (fun x=>v.ownBlock=some x) w w'
 own:v'.ownBlock=v.ownBlock∨∃ b,v'.ownBlock=some b∧w.heap.size≤b
theorem Gro.refl (v:Value) (w:World):Gro v w v w:=⟨ButG.refl _ _,.inl rfl⟩
theorem Gro.below {v:Value} {w w':World} (h:Below w.heap.size w w'):Gro v w v w':=⟨ButG.of_below h,.inl rfl⟩
theorem Gro.trans {v v1 v2:Value} {w w1 w2:World} (h:Gro v w v1 w1) (h':Gro v1 w1 v2 w2):Gro v w v2 w2:=by
 have hs:=h.but.size
 refine⟨h.but.trans h'.but fun x hx=>?_,?_⟩
 ·rcases h.own with e | ⟨c,e,hc⟩
  ·exact .inl (by rw[←e];exact hx)
  ·rw[e] at hx
   injection hx with hx
   exact .inr (by omega)
 ·rcases h'.own with e | ⟨c,e,hc⟩
  ·rw[e];exact h.own
  ·exact .inr ⟨c,e,by omega⟩
def Off (v:Value) (w:World) (K:Nat→Prop):Prop:=∀ b,K b→b<w.heap.size∧v.ownBlock≠some b
theorem Gro.off {v v':Value} {w w':World} {K:Nat→Prop} (h:Gro v w v' w') (hk:Off v w K):Off v' w' K:=fun b hb=>by
 obtain⟨h1,h2⟩:=hk b hb
 refine⟨Nat.lt_of_lt_of_le h1 h.but.size,?_⟩
 rcases h.own with e | ⟨c,e,hc⟩
 ·rw[e];exact h2
 ·rw[e];intro e2;injection e2 with e2;omega
theorem Gro.cell {v v':Value} {w w':World} {b o:Nat} {u:Value} (h:Gro v w v' w') (hn:v.ownBlock≠some b) (hc:w.cell? ⟨b,o,none⟩=some u):w'.cell? ⟨b,o,none⟩=some u:=h.but.cell hn hc
theorem Gro.list {v v':Value} {w w':World} {K:Nat→Prop} {l:List Ty} {A:Option Addr} {c:Nat} (h:Gro v w v' w') (hk:Off v w K) (hL:ListT K w l A c):ListT K w' l A c:=by
 obtain⟨b,o,h1,h2⟩:=hL
 refine⟨b,o,h1,fun i hi=>?_⟩
 have hb:=(h1.some (by omega)).2
 exact (h2 i hi).keep (fun _ h=>h) (fun x _ _ hx hc=>h.but.cell (hk x hx).2 hc) fun _ _ hc=>h.but.cell (hk b hb).2 hc
theorem OwnE.lt {α:Type} {E:(Nat→Prop)→World→α→List Value→Prop} {T:TypeId} {z B:Nat} {w:World} {v:Value} {l:List α} (h:OwnE E T z B w v l) {b:Nat} (hb:v.ownBlock=some b):B≤b∧b<w.heap.size:=by
 obtain⟨vs,h1,_⟩:=h
 exact h1.lt b hb
theorem ownsRow_keep {w w':World} {B T z n:Nat} {v:Value} {xs:List Value} (h:w.ownsRow B T z v n xs) (hk:∀ b,v.ownBlock=some b→w'.heap[b]?=w.heap[b]?):w'.ownsRow B T z v n xs:=by
 refine⟨h.1,?_⟩
 rcases h.2 with h3 | ⟨g,cap,cur,hv,hg,hh,r⟩
 ·exact .inl h3
 ·exact .inr ⟨g,cap,cur,hv,hg,by rw[hk g (by rw[hv];rfl)];exact hh,r⟩
theorem OwnE.later {α:Type} {E:(Nat→Prop)→World→α→List Value→Prop} (hE:KeepE E) {T:TypeId} {z B:Nat} {w w':World} {v:Value} {l:List α} (h:OwnE E T z B w v l) (hb:Below w.heap.size w w'):OwnE E T z B w' v l:=by
 have hlt:=fun b (e:v.ownBlock=some b)=>(h.lt e).2
 obtain⟨vs,h1,h2⟩:=h
 refine⟨vs,ownsRow_keep h1 fun b e=>hb.block b (hlt b e),fun i hi=>?_⟩
 obtain⟨cs,h3,h4,h5⟩:=h2 i hi
 exact⟨cs,hE _ _ _ _ _ _ (fun b hx=>⟨⟨Nat.lt_of_lt_of_le hx.1 hb.size,hx.2⟩,fun hlt=>hb.block b hlt⟩) h3,h4,h5⟩
theorem OwnE.push {α:Type} {E:(Nat→Prop)→World→α→List Value→Prop} (hE:KeepE E) {T:TypeId} {z B:Nat} {w wx w':World} {v v':Value} {l:List α} {a:α} {vs cs:List Value} (hown:w.ownsRow B T z v l.length vs)
  (hr:∀ i (h:i<l.length),∃ cs,E (fun b=>b<w.heap.size∧v.ownBlock≠some b) w l[i] cs∧cs.length=z∧∀ j u,cs[j]?=some u→vs[i*z+j]?=some u) (hb:Below w.heap.size w wx)
  (ha:E (fun b=>b<wx.heap.size∧v.ownBlock≠some b) wx a cs) (hz:cs.length=z) (ho:w'.ownsRow B T z v' (l.length+1) (vs++cs)) (hg:wx.grownBy w' v.ownBlock) (hob:v'.ownBlock=v.ownBlock∨v'.ownBlock=some wx.heap.size) :
  OwnE E T z B w' v' (l++[a])∧Gro v w v' w':=by
 have hvl:=hown.1
 have hs:=hb.size
 have hkeep:∀ b,b<wx.heap.size∧v.ownBlock≠some b→(b<w'.heap.size∧v'.ownBlock≠some b)∧w'.heap[b]?=wx.heap[b]?:=fun b hx=>by
  refine⟨⟨Nat.lt_of_lt_of_le hx.1 hg.size,?_⟩,hg.block b hx.1 fun e=>hx.2 e.symm⟩
  rcases hob with e | e
  ·rw[e];exact hx.2
  ·rw[e];intro e2;injection e2 with e2;omega
 refine⟨⟨vs++cs,by rw[List.length_append];exact ho,fun i hi=>?_⟩,⟨(ButG.of_below hb).grown hg fun k hk=>.inl hk,?_⟩⟩
 ·rw[List.length_append,List.length_singleton] at hi
  by_cases hlt:i<l.length
  ·obtain⟨cs',h1,h2,h3⟩:=hr i hlt
   refine⟨cs',?_,h2,fun j u hj=>?_⟩
   ·rw[List.getElem_append_left hlt]
    refine hE _ _ _ _ _ _ (fun b hx=>?_) h1
    have h4:=hkeep b ⟨by omega,hx.2⟩
    exact⟨h4.1,fun _=>h4.2.trans (hb.block b hx.1)⟩
   ·have h4:=h3 j u hj
    rw[List.getElem?_append_left (List.getElem?_eq_some_iff.1 h4).1]
    exact h4
  ·obtain rfl:i=l.length:=by omega
   refine⟨cs,?_,hz,fun j u hj=>?_⟩
   ·rw[List.getElem_append_right (by omega)]
    simp only[Nat.sub_self,List.getElem_cons_zero]
    exact hE _ _ _ _ _ _ (fun b hx=>⟨(hkeep b hx).1,fun _=>(hkeep b hx).2⟩) ha
   ·rw[List.getElem?_append_right (by omega),show l.length*z+j - vs.length=j from by omega]
    exact hj
 ·rcases hob with e | e
  ·exact .inl e
  ·exact .inr ⟨_,e,hs⟩
theorem OwnE.slice {α:Type} {E:(Nat→Prop)→World→α→List Value→Prop} {T:TypeId} {z B:Nat} {w:World} {v:Value} {l:List α} (h:OwnE E T z B w v l):∃ A c,v=.slice A l.length c∧((l=[]∧A=none∧c=0)∨∃ g,A=some ⟨g,0,none⟩∧B≤g∧g<w.heap.size)∧∀ i (h:i<l.length),∃ g cs,A=some ⟨g,0,none⟩∧E (fun b=>b<w.heap.size∧b≠g) w l[i] cs∧cs.length=z∧∀ j u,cs[j]?=some u→w.cell? ⟨g,i*z+j,none⟩=some u:=by
 obtain⟨vs,h1,h2⟩:=h
 rcases h1.2 with ⟨hv,hn⟩ | ⟨g,cap,cur,hv,hg,hh,hle,hmax,hsz,htk⟩
 ·have hl:=List.eq_nil_of_length_eq_zero hn
  subst hl
  exact⟨none,0,hv,.inl ⟨rfl,rfl,rfl⟩,fun i hi=>absurd hi (by simp)⟩
 ·refine⟨_,cap,hv,.inr ⟨g,rfl,hg,(Array.getElem?_eq_some_iff.1 hh).1⟩,fun i hi=>?_⟩
  obtain⟨cs,h3,h4,h5⟩:=h2 i hi
  subst hv
  refine⟨g,cs,rfl,?_,h4,fun j u hj=>?_⟩
  ·have e:(fun b=>b<w.heap.size∧(Value.slice (some ⟨g,0,none⟩) l.length cap).ownBlock≠some b)=fun b=>b<w.heap.size∧b≠g:=by
    funext b
    simp only[Value.ownBlock,ne_eq,Option.some.injEq,eq_iff_iff,and_congr_right_iff]
    exact fun _=>⟨fun h e=>h e.symm,fun h e=>h e.symm⟩
   rw[←e];exact h3
  ·have h6:=h5 j u hj
   rw[←htk,List.getElem?_take] at h6
   split at h6
   ·rw[Ch hh];simpa using h6
   ·cases h6
def TyE (K:Nat→Prop) (w:World) (t:Ty) (cs:List Value):Prop:=RepT K w t cs
theorem keepTy:KeepE TyE:=fun K K' w w' a cs h h1=>by
 have h2:=RepT.both a cs h1
 exact RepT.keep (fun b hb=>(h b hb.1).1) (fun b _ _ hb hc=>(World.cell?_of_block ((h b hb.1).2 hb.2)).trans hc) _ _ h2
def FdE (K:Nat→Prop) (w:World) (a:ByteArray×Ty) (cs:List Value):Prop:=∃ rs,cs=.string a.1 :: rs∧RepT K w a.2 rs
theorem keepFd:KeepE FdE:=fun K K' w w' a _ h ⟨rs,e,h1⟩=>⟨rs,e,keepTy K K' w w' a.2 rs h h1⟩
structure OutB (K:Nat→Prop) (w0 w:World) (B:Nat) (v:Value) (ts:List Ty):Prop where
 ex:∃ vs,w.ownsRow B 26 6 v ts.length vs∧∀ i (h:i<ts.length),∃ cs,RepT K w0 ts[i] cs∧∀ j u,cs[j]?=some u→vs[i*6+j]?=some u
theorem OutB.nil (K:Nat→Prop) (w0 w:World) (B:Nat):OutB K w0 w B (.slice none 0 0) []:=⟨[],⟨by simp,.inl ⟨rfl,rfl⟩⟩,fun i h=>absurd h (by simp)⟩
theorem OutB.later {K:Nat→Prop} {w0 w w':World} {B:Nat} {v:Value} {ts:List Ty} (h:OutB K w0 w B v ts) (hb:Below w.heap.size w w'):OutB K w0 w' B v ts:=by
 obtain⟨vs,h1,h2⟩:=h
 exact⟨vs,ownsRow_keep h1 fun b e=>hb.block b (h1.lt b e).2,h2⟩
theorem OutB.push {K:Nat→Prop} {w0 w':World} {B:Nat} {v':Value} {ts:List Ty} {t:Ty} {vs cs:List Value} (hl:vs.length=ts.length*6) (h:∀ i (h:i<ts.length),∃ cs,RepT K w0 ts[i] cs∧∀ j u,cs[j]?=some u→vs[i*6+j]?=some u)
  (ht:RepT K w0 t cs) (ho:w'.ownsRow B 26 6 v' (ts.length+1) (vs++cs)):OutB K w0 w' B v' (ts++[t]):=by
 refine⟨⟨vs++cs,by rw[List.length_append];exact ho,fun i hi=>?_⟩⟩
 rw[List.length_append,List.length_singleton] at hi
 by_cases hlt:i<ts.length
 ·obtain⟨cs',h1,h2⟩:=h i hlt
  refine⟨cs',by rw[List.getElem_append_left hlt];exact h1,fun j u hj=>?_⟩
  have h3:=h2 j u hj
  rw[List.getElem?_append_left (List.getElem?_eq_some_iff.1 h3).1]
  exact h3
 ·obtain rfl:i=ts.length:=by omega
  refine⟨cs,by rw[List.getElem_append_right (by omega)];simpa using ht,fun j u hj=>?_⟩
  rw[List.getElem?_append_right (by omega),show ts.length*6+j - vs.length=j from by omega]
  exact hj
theorem OutB.list {K:Nat→Prop} {w0 w:World} {B:Nat} {v:Value} {ts:List Ty} (h:OutB K w0 w B v ts) (hlo:∀ b,K b→b<w0.heap.size) (hb:Below w0.heap.size w0 w) (hl:ts.length≤1000000000000000):∃ A c,v=.slice A ts.length c∧ListT (fun b=>K b∨B≤b) w ts A c:=by
 obtain⟨vs,h1,h2⟩:=h
 rcases h1.2 with ⟨hv,hn⟩ | ⟨g,cap,cur,hv,hg,hh,hle,hmax,hsz,htk⟩
 ·have hts:=List.eq_nil_of_length_eq_zero hn
  subst hts
  exact⟨none,0,hv,⟨0,0,⟨by simp,by simp,fun _=>rfl,fun h=>absurd h (by simp)⟩,fun i h=>absurd h (by simp)⟩⟩
 ·refine⟨_,cap,hv,⟨g,0,⟨hle,hl,(fun h=>by cases h),fun _=>⟨rfl,.inr hg⟩⟩,fun i hi=>?_⟩⟩
  obtain⟨cs,h4,h5⟩:=h2 i hi
  refine⟨cs,fun j u hj=>?_,RepT.keep (fun _ h=>.inl h) (fun b o v hk hc=>(World.cell?_of_block (hb.block b (hlo b hk))).trans hc) _ _ h4⟩
  have h6:=h5 j u hj
  rw[←htk,List.getElem?_take] at h6
  split at h6
  ·rw[Nat.zero_add,Ch hh];simpa using h6
  ·cases h6
theorem OwnE.spread {α:Type} {E:(Nat→Prop)→World→α→List Value→Prop} {T:TypeId} {z B:Nat} {w:World} {v:Value} {l:List α} (h:OwnE E T z B w v l):∃ A c g o,v=.slice A l.length c∧(0<l.length→A=some ⟨g,o,none⟩∧B≤g∧g<w.heap.size)∧∀ i (h:i<l.length),∃ cs,E (fun b=>b<w.heap.size∧b≠g) w l[i] cs∧cs.length=z∧∀ j u,cs[j]?=some u→w.cell? ⟨g,o+i*z+j,none⟩=some u:=by
 obtain⟨A,c,hv,hA,hat⟩:=h.slice
 rcases hA with ⟨hl,-,-⟩ | ⟨g,hg,hB,hlt⟩
 ·subst hl
  exact⟨A,c,0,0,hv,fun h=>absurd h (by simp),fun i h=>absurd h (by simp)⟩
 ·refine⟨A,c,g,0,hv,fun _=>⟨hg,hB,hlt⟩,fun i hi=>?_⟩
  obtain⟨g',cs,h1,h2,h3,h4⟩:=hat i hi
  rw[hg] at h1
  injection h1 with h1
  injection h1 with h1
  subst h1
  exact⟨cs,h2,h3,fun j u hj=>by rw[Nat.zero_add];exact h4 j u hj⟩
theorem OwnE.base {α:Type} {E:(Nat→Prop)→World→α→List Value→Prop} {T:TypeId} {z B B':Nat} {w:World} {v:Value} {l:List α} (h:OwnE E T z B w v l) (hB:B'≤B):OwnE E T z B' w v l:=by
 obtain⟨vs,h1,h2⟩:=h
 refine⟨vs,⟨h1.1,?_⟩,h2⟩
 rcases h1.2 with h3 | ⟨g,cap,cur,hv,hg,r⟩
 ·exact .inl h3
 ·exact .inr ⟨g,cap,cur,hv,Nat.le_trans hB hg,r⟩
def zeroT6:Array Value:=#[.int .i64 0,.string ⟨#[]⟩,.int .i64 0,.slice none 0 0,.slice none 0 0,.slice none 0 0]
theorem some_set {w:World} {p r:Addr} {u:Value} (h:∃ v,w.cell? p=some v):∃ v,(w.setCell r u).cell? p=some v:=by
 obtain⟨v,hv⟩:=h
 by_cases e:r=p
 ·subst e
  exact⟨u,World.cell?_setCell_same _ _ _ hv⟩
 ·exact⟨v,(World.cell?_setCell_other _ _ _ _ e).trans hv⟩
theorem set_same {w:World} {p:Addr} {u:Value} (h:∃ v,w.cell? p=some v):(w.setCell p u).cell? p=some u:=by
 obtain⟨v,hv⟩:=h
 exact World.cell?_setCell_same _ _ _ hv
theorem off_ne {g a b:Nat} (h:a≠b):(⟨g,a,none⟩:Addr)≠⟨g,b,none⟩:=fun e=>by
 injection e with _ e2 _
 exact h e2
def put6 (w:World) (g y:Nat) (v0 v1 v2 v3 v4 v5:Value):World:=(((((w.setCell ⟨g,y,none⟩ v0).setCell ⟨g,y+1,none⟩ v1).setCell ⟨g,y+2,none⟩ v2).setCell ⟨g,y+3,none⟩ v3).setCell ⟨g,y+4,none⟩ v4).setCell ⟨g,y+5,none⟩ v5
theorem put6_other {w:World} {g y:Nat} {v0 v1 v2 v3 v4 v5:Value} {p:Addr} (h:p.block≠g∨p.off<y):(put6 w g y v0 v1 v2 v3 v4 v5).cell? p=w.cell? p:=by
 have hne:∀ i,(⟨g,y+i,none⟩:Addr)≠p:=fun i e=>by
  subst e
  rcases h with h | h
  ·exact h rfl
  ·have h:y+i<y:=h
   omega
 unfold put6
 rw[World.cell?_setCell_other _ _ _ _ (hne 5),World.cell?_setCell_other _ _ _ _ (hne 4),World.cell?_setCell_other _ _ _ _ (hne 3),World.cell?_setCell_other _ _ _ _ (hne 2),World.cell?_setCell_other _ _ _ _ (hne 1),World.cell?_setCell_other _ _ _ _ (show (⟨g,y,none⟩:Addr)≠p from hne 0)]
theorem put6_at {w:World} {g y:Nat} {v0 v1 v2 v3 v4 v5:Value} (h:∀ x,x<6→∃ v,w.cell? ⟨g,y+x,none⟩=some v) :
  ∀ x u,([v0,v1,v2,v3,v4,v5]:List Value)[x]?=some u→(put6 w g y v0 v1 v2 v3 v4 v5).cell? ⟨g,y+x,none⟩=some u:=by
 intro x u hu
 unfold put6
 rcases x with _ | _ | _ | _ | _ | _ | x
 ·obtain rfl:v0=u:=by simpa using hu
  rw[World.cell?_setCell_other _ _ _ _ (off_ne (by omega)),World.cell?_setCell_other _ _ _ _ (off_ne (by omega)),World.cell?_setCell_other _ _ _ _ (off_ne (by omega)),World.cell?_setCell_other _ _ _ _ (off_ne (by omega)),World.cell?_setCell_other _ _ _ _ (off_ne (by omega))]
  exact set_same (h 0 (by omega))
 ·obtain rfl:v1=u:=by simpa using hu
  rw[World.cell?_setCell_other _ _ _ _ (off_ne (by omega)),World.cell?_setCell_other _ _ _ _ (off_ne (by omega)),World.cell?_setCell_other _ _ _ _ (off_ne (by omega)),World.cell?_setCell_other _ _ _ _ (off_ne (by omega))]
  exact set_same (some_set (h 1 (by omega)))
 ·obtain rfl:v2=u:=by simpa using hu
  rw[World.cell?_setCell_other _ _ _ _ (off_ne (by omega)),World.cell?_setCell_other _ _ _ _ (off_ne (by omega)),World.cell?_setCell_other _ _ _ _ (off_ne (by omega))]
  exact set_same (some_set (some_set (h 2 (by omega))))
 ·obtain rfl:v3=u:=by simpa using hu
  rw[World.cell?_setCell_other _ _ _ _ (off_ne (by omega)),World.cell?_setCell_other _ _ _ _ (off_ne (by omega))]
  exact set_same (some_set (some_set (some_set (h 3 (by omega)))))
 ·obtain rfl:v4=u:=by simpa using hu
  rw[World.cell?_setCell_other _ _ _ _ (off_ne (by omega))]
  exact set_same (some_set (some_set (some_set (some_set (h 4 (by omega))))))
 ·obtain rfl:v5=u:=by simpa using hu
  exact set_same (some_set (some_set (some_set (some_set (some_set (h 5 (by omega)))))))
 ·simp at hu
theorem put6_size (w:World) (g y:Nat) (v0 v1 v2 v3 v4 v5:Value):(put6 w g y v0 v1 v2 v3 v4 v5).heap.size=w.heap.size:=by simp[put6]
structure FillT (K:Nat→Prop) (w:World) (g q:Nat) (S:List Ty):Prop where
 lt:g<w.heap.size
 cell:∀ y,y<q*6→∃ v,w.cell? ⟨g,y,none⟩=some v
 free:∀ y,w.frozen? ⟨g,y,none⟩=false
 reps:∀ i (h:i<S.length),∃ cs,RepT (fun b=>K b∨g<b) w S[i] cs∧∀ j u,cs[j]?=some u→w.cell? ⟨g,i*6+j,none⟩=some u
theorem FillT.start (K:Nat→Prop) (w:World) (n:Nat):FillT K (w.alloc (.cells (madeCells zeroT6 (n*6)) 26)) w.heap.size n []:=by
 refine⟨by simp,fun y hy=>?_,fun y=>by simp,fun i h=>absurd h (by simp)⟩
 have hs:y<(madeCells zeroT6 (n*6)).size:=by rw[size_madeCells];exact hy
 exact⟨(madeCells zeroT6 (n*6))[y],by rw[cell_of_row _ _ _ _ _ _ (heap_alloc_new w _)];exact Array.getElem?_eq_getElem hs⟩
theorem FillT.below {K:Nat→Prop} {w w':World} {g q:Nat} {S:List Ty} (h:FillT K w g q S) (hb:Below w.heap.size w w'):FillT K w' g q S:=
 ⟨by have:=h.lt;have:=hb.size;omega,fun y hy=>by obtain⟨v,hv⟩:=h.cell y hy;exact⟨v,cell_stays hb hv⟩,fun y=>(hb.frozen (p:=⟨g,y,none⟩) h.lt).trans (h.free y),
  fun i hi=>by obtain⟨cs,h1,h2⟩:=h.reps i hi;exact⟨cs,h1.later hb,fun j u hj=>cell_stays hb (h2 j u hj)⟩⟩
theorem FillT.put {K:Nat→Prop} {w:World} {g q:Nat} {S:List Ty} {t:Ty} {v0 v1 v2 v3 v4 v5:Value} (h:FillT K w g q S) (hlo:∀ b,K b→b<g) (hj:S.length<q) (ht:RepT (fun b=>K b∨g<b) w t [v0,v1,v2,v3,v4,v5]) :
  FillT K (put6 w g (S.length*6) v0 v1 v2 v3 v4 v5) g q (S++[t]):=by
 have hkeep:∀ {t:Ty} {cs:List Value},RepT (fun b=>K b∨g<b) w t cs→RepT (fun b=>K b∨g<b) (put6 w g (S.length*6) v0 v1 v2 v3 v4 v5) t cs:=fun {t cs} hr=>
  RepT.keep (fun _ h=>h) (fun b o v hk hc=>by
   rw[put6_other (.inl ?_)]
   ·exact hc
   ·show b≠g
    rcases hk with hk | hk
    ·have:=hlo b hk;omega
    ·omega) t cs hr
 refine⟨by rw[put6_size];exact h.lt,fun y hy=>?_,fun y=>?_,fun i hi=>?_⟩
 ·exact some_set (some_set (some_set (some_set (some_set (some_set (h.cell y hy))))))
 ·simp only[put6,World.frozen?_setCell]
  exact h.free y
 ·rw[List.length_append,List.length_singleton] at hi
  by_cases hlt:i<S.length
  ·obtain⟨cs,h1,h2⟩:=h.reps i hlt
   have h6:=h1.six
   refine⟨cs,by rw[List.getElem_append_left hlt];exact hkeep h1,fun j u hj'=>?_⟩
   have hj6:=(List.getElem?_eq_some_iff.1 hj').1
   rw[put6_other (.inr (by show i*6+j<S.length*6;omega))]
   exact h2 j u hj'
  ·obtain rfl:i=S.length:=by omega
   refine⟨_,by rw[List.getElem_append_right (by omega)];simpa using hkeep ht,fun j u hj'=>put6_at (fun x hx=>h.cell _ (by omega)) j u hj'⟩
theorem FillT.list {K:Nat→Prop} {w:World} {g:Nat} {S:List Ty} (h:FillT K w g S.length S) (hl:S.length≤1000000000000000):ListT (fun b=>K b∨g≤b) w S (some ⟨g,0,none⟩) S.length:=
 ⟨g,0,⟨Nat.le_refl _,hl,(fun h=>by cases h),fun _=>⟨rfl,.inr (Nat.le_refl _)⟩⟩,fun i hi=>by
  obtain⟨cs,h1,h2⟩:=h.reps i hi
  exact⟨cs,fun j u hj=>by rw[Nat.zero_add];exact h2 j u hj,h1.weak fun b hb=>hb.imp id fun hb=>Nat.le_of_lt hb⟩⟩
theorem InT.sixAt {K:Nat→Prop} {w0 w:World} {g c:Nat} {s:List Ty} (h:InT K w0 w g c s) {i:Nat} {t:Ty} (hi:s[i]?=some t):∃ x0 x1 x2 x3 x4 x5 x6 x7 x8 x9 xa xb,(w.cell? ⟨g,i*6,none⟩=some (.int .i64 x0)∧w.cell? ⟨g,i*6+1,none⟩=some (.string x1)∧w.cell? ⟨g,i*6+2,none⟩=some (.int .i64 x2)∧w.cell? ⟨g,i*6+3,none⟩=some (.slice x3 x4 x5)∧w.cell? ⟨g,i*6+4,none⟩=some (.slice x6 x7 x8)∧w.cell? ⟨g,i*6+5,none⟩=some (.slice x9 xa xb))∧RepT K w0 t [.int .i64 x0,.string x1,.int .i64 x2,.slice x3 x4 x5,.slice x6 x7 x8,.slice x9 xa xb]:=by
 obtain⟨cs,h1,h2⟩:=h.reps i t hi
 obtain⟨k,z,n,ps,fs,vs⟩:=t
 obtain⟨A,c,A',c',A'',c'',rfl,_⟩:=h1.inv
 exact⟨_,_,_,_,_,_,_,_,_,_,_,_,⟨h2 0 _ rfl,h2 1 _ rfl,h2 2 _ rfl,h2 3 _ rfl,h2 4 _ rfl,h2 5 _ rfl⟩,h1⟩
theorem InT.six {K:Nat→Prop} {w0 w:World} {g c:Nat} {s:List Ty} (h:InT K w0 w g c s) {i:Nat} (hi:i<s.length):∃ x0 x1 x2 x3 x4 x5 x6 x7 x8 x9 xa xb,(w.cell? ⟨g,i*6,none⟩=some (.int .i64 x0)∧w.cell? ⟨g,i*6+1,none⟩=some (.string x1)∧w.cell? ⟨g,i*6+2,none⟩=some (.int .i64 x2)∧w.cell? ⟨g,i*6+3,none⟩=some (.slice x3 x4 x5)∧w.cell? ⟨g,i*6+4,none⟩=some (.slice x6 x7 x8)∧w.cell? ⟨g,i*6+5,none⟩=some (.slice x9 xa xb))∧RepT K w0 s[i] [.int .i64 x0,.string x1,.int .i64 x2,.slice x3 x4 x5,.slice x6 x7 x8,.slice x9 xa xb]:=h.sixAt (List.getElem?_eq_getElem hi)
theorem run_clear_types (w:World) (ty:TypeId) (b o n c:Nat) (hn:0<n)
  (hc:∀ j,j<n*6→(w.cell? ⟨b,o+j,none⟩).isSome=true∧w.frozen? ⟨b,o+j,none⟩=false) :
  (Builtin.clear_ #[22] ty #[.slice (some ⟨b,o,none⟩) n c]).run Tryz.prog w=.ok (.tuple #[]) (w.setCells b o (Builtin.zeroCells #[.int .i64 0,.string ⟨#[]⟩,.int .i64 0,.slice none 0 0,.slice none 0 0,.slice none 0 0] n).toList):=by
 have hlen:(Builtin.zeroCells #[.int .i64 0,.string ⟨#[]⟩,.int .i64 0,.slice none 0 0,.slice none 0 0,.slice none 0 0] n).toList.length=n*6:=by simp[Builtin.zeroCells]
 have hst:=run_storeCells_cells (P:=Tryz.prog) b o (Builtin.zeroCells #[.int .i64 0,.string ⟨#[]⟩,.int .i64 0,.slice none 0 0,.slice none 0 0,.slice none 0 0] n).toList 0 w (by rw[hlen];simpa using fun j hj=>(hc j hj).1) (by rw[hlen];simpa using fun j hj=>(hc j hj).2) (by
  intro v hv
  simp only[Builtin.zeroCells,Array.toList_map,List.mem_map] at hv
  obtain⟨i,_,rfl⟩:=hv
  have h6:i % 6<6:=Nat.mod_lt _ (by decide)
  generalize hr:i % 6=r at h6
  match r,h6 with
  | 0,_=>rfl
  | 1,_=>rfl
  | 2,_=>rfl
  | 3,_=>rfl
  | 4,_=>rfl
  | 5,_=>rfl)
 simp only[Nat.add_zero] at hst
 obtain⟨m,rfl⟩:∃ m,n=m+1:=⟨n - 1,by omega⟩
 have hz:(Value.agg #[.int .i64 0,.string ⟨#[]⟩,.int .i64 0,.slice none 0 0,.slice none 0 0,.slice none 0 0]).cells=#[.int .i64 0,.string ⟨#[]⟩,.int .i64 0,.slice none 0 0,.slice none 0 0,.slice none 0 0]:=by rfl
 simp[Builtin.clear_,run_underlying Tryz.underlying22,Tryz.zeroValue26,hz,hst]
structure CompR (K:Nat→Prop) (w0 wr:World) (g c:Nat) (s:List Ty) (m:Nat) (D:List Ty) (i:Nat):Prop where
 le:m+2+i≤s.length
 d:D=dedupT (s.take (m+2+i))
 dl:D.length≤m+1+i
 row:InT K w0 wr g c (D++s.drop D.length)
 below:Below w0.heap.size w0 wr
theorem CompR.at {K:Nat→Prop} {w0 wr:World} {g c:Nat} {s:List Ty} {m:Nat} {D:List Ty} {i:Nat} (h:CompR K w0 wr g c s m D i) {j:Nat} (h1:m+1+i≤j) (h2:j<s.length):(D++s.drop D.length)[j]?=some s[j]:=by
 have:=h.dl
 rw[List.getElem?_append_right (by omega),List.getElem?_drop,show D.length+(j - D.length)=j from by omega]
 exact List.getElem?_eq_getElem h2
theorem CompR.start {K:Nat→Prop} {w0 wr:World} {g c:Nat} {s:List Ty} {m:Nat} (hm:m+1<s.length) (hd:dedupT (s.take (m+1))=s.take (m+1)) (he:ordT s[m] s[m+1]=0) (hr:InT K w0 wr g c s) (hb:Below w0.heap.size w0 wr):CompR K w0 wr g c s m (s.take (m+1)) 0:=by
 have hl:(s.take (m+1)).length=m+1:=by simp;omega
 refine⟨by omega,?_,by omega,by rw[hl,List.take_append_drop];exact hr,hb⟩
 have:=dedup_take (s:=s) (n:=m+1) (by omega) hm
 have he':ordT s[m+1 - 1] s[m+1]=0:=he
 rw[if_pos he',hd] at this
 exact this.symm
theorem CompR.same {K:Nat→Prop} {w0 wr w':World} {g c:Nat} {s:List Ty} {m:Nat} {D:List Ty} {i:Nat} (h:CompR K w0 wr g c s m D i) (hi:m+2+i<s.length) (he:ordT s[m+1+i] s[m+2+i]=0) (hb:Below wr.heap.size wr w'):CompR K w0 w' g c s m D (i+1):=by
 refine⟨by omega,?_,by have:=h.dl;omega,h.row.later hb,h.below.trans (hb.mono h.below.size)⟩
 have:=dedup_take (s:=s) (n:=m+2+i) (by omega) hi
 rw[if_pos (by simpa only[show m+2+i - 1=m+1+i from by omega] using he),←h.d] at this
 exact this.symm
theorem CompR.put {K:Nat→Prop} {w0 wr wy:World} {g c:Nat} {s:List Ty} {m:Nat} {D:List Ty} {i:Nat} {cs:List Value} (h:CompR K w0 wr g c s m D i) (hi:m+2+i<s.length) (hn:ordT s[m+1+i] s[m+2+i]≠0) (hg:w0.heap.size≤g) (hb:Below wr.heap.size wr wy) (ht:RepT K w0 s[m+2+i] cs):CompR K w0 (wy.setCells g (D.length*6) cs) g c s m (D++[s[m+2+i]]) (i+1):=by
 have hdl:=h.dl
 refine⟨by omega,?_,by simp;omega,(h.row.later hb).put (by omega) ht,sets_below hg cs _ _ (h.below.trans (hb.mono h.below.size))⟩
 have:=dedup_take (s:=s) (n:=m+2+i) (by omega) hi
 rw[if_neg (by simpa only[show m+2+i - 1=m+1+i from by omega] using hn),←h.d] at this
 exact this.symm
theorem CompR.fin {K:Nat→Prop} {w0 wr:World} {g c:Nat} {s:List Ty} {m:Nat} {D:List Ty} {i:Nat} (h:CompR K w0 wr g c s m D i) (hi:¬ m+2+i<s.length) (hg:w0.heap.size≤g) (L:List Value):D=dedupT s∧InT K w0 (wr.setCells g (D.length*6) L) g c D∧Below w0.heap.size w0 (wr.setCells g (D.length*6) L):=by
 have hle:=h.le
 refine⟨by rw[h.d,List.take_of_length_le (by omega)],?_,sets_below hg L _ _ h.below⟩
 have hp:=h.row.pre
 obtain⟨cur,hc1,hc2⟩:=hp.blk
 refine⟨hp.le,hp.mx,row_set g L _ wr ⟨_,_,hc1,rfl⟩ _ ⟨_,hc1,hc2⟩,fun a t ha=>?_⟩
 obtain⟨cs,h1,h2⟩:=hp.reps a t ha
 have hal:=(List.getElem?_eq_some_iff.1 ha).1
 refine⟨cs,h1,fun j u hj=>?_⟩
 have hj6:=(List.getElem?_eq_some_iff.1 hj).1
 rw[h1.six] at hj6
 rw[World.cell?_setCells_out g L _ wr ⟨g,a*6+j,none⟩ (fun _ _=>by show a*6+j<_∨_≤a*6+j;omega)]
 exact h2 j u hj
theorem sgnZ (x y:Int):sgn (decide (x<y)) (decide (y<x))=cmpZ x y:=by
 rcases cmpZ_cases x y with ⟨a,b,e⟩ | ⟨a,b,e⟩ | ⟨a,b,e⟩ <;> rw[e,sgn] <;> simp[a,b]
theorem sgnB (x y:ByteArray):sgn (Op.bytesLess x.toList y.toList) (!Op.bytesLess x.toList y.toList && !(x.toList == y.toList))=cmpB x y:=by
 rcases cmpB_cases x y with ⟨a,b,e⟩ | ⟨a,b,e⟩ | ⟨a,b,e⟩ <;> rw[e,sgn,a,b] <;> rfl
theorem ordr_step (k:Int) (t:ByteArray) (n:Int) (ps:List Ty) (fs:FsT) (vs:VsT) (hp:∀ p∈ps,OrdR p) (hf:∀ f∈fs,OrdR f.2.2) (hv:∀ v∈vs,∀ b∈v.2,OrdR b):OrdR (.mk k t n ps fs vs):=by
 intro K K' t' w cs cs' h h'
 obtain⟨k',s',n',ps',fs',vs'⟩:=t'
 have hb2:Gw w ((w.alloc (.cells cs.toArray 26)).alloc (.cells cs'.toArray 26)):=((Gw.refl w).alloc _).alloc _
 have a1:=(AtT.box 26 h).later ((Below.refl _ _).alloc (Nat.le_refl _) (.cells cs'.toArray 26))
 have a2:AtT K' ((w.alloc (.cells cs.toArray 26)).alloc (.cells cs'.toArray 26)) (.mk k' s' n' ps' fs' vs') (w.heap.size+1) 0:=by
  have:=AtT.box (w:=w.alloc (.cells cs.toArray 26)) 26 (h'.later ((Below.refl _ _).alloc (Nat.le_refl _) _))
  rw[World.size_alloc] at this
  exact this
 have HB2:=Hd hb2
 obtain⟨A,c,A2,c2,A3,c3,rfl,-⟩:=h.inv
 obtain⟨B,d,B2,d2,B3,d3,rfl,-⟩:=h'.inv
 simp only[cells6T] at a1 a2 HB2 ⊢
 generalize hw2:(w.alloc (.cells #[.int .i64 k,.string t,.int .i64 n,.slice A ps.length c,.slice A2 fs.length c2,.slice A3 vs.length c3] 26)).alloc (.cells #[.int .i64 k',.string s',.int .i64 n',.slice B ps'.length d,.slice B2 fs'.length d2,.slice B3 vs'.length d3] 26)=w2 at a1 a2 HB2
 have HE2:=Hd hw2
 obtain⟨A',c',A2',c2',A3',c3',⟨x0,x1,x2,x3,x4,x5⟩,-,hP,hF,hV⟩:=a1.six
 obtain⟨B',d',B2',d2',B3',d3',⟨y0,y1,y2,y3,y4,y5⟩,-,hP',hF',hV'⟩:=a2.six
 rw[Nat.zero_add] at x1 x2 x3 x4 x5 y1 y2 y3 y4 y5
 have HX:Hid (∀ wx,Gw w2 wx→(wx.cell? ⟨w.heap.size,3,none⟩=some (.slice A' ps.length c')∧wx.cell? ⟨w.heap.size,4,none⟩=some (.slice A2' fs.length c2')∧wx.cell? ⟨w.heap.size,5,none⟩=some (.slice A3' vs.length c3'))∧wx.cell? ⟨w.heap.size+1,3,none⟩=some (.slice B' ps'.length d')∧wx.cell? ⟨w.heap.size+1,4,none⟩=some (.slice B2' fs'.length d2')∧wx.cell? ⟨w.heap.size+1,5,none⟩=some (.slice B3' vs'.length d3')):=Hd fun wx hx=>⟨⟨cell_stays hx.below x3,cell_stays hx.below x4,cell_stays hx.below x5⟩,cell_stays hx.below y3,cell_stays hx.below y4,cell_stays hx.below y5⟩
 have K3:Hid (∀ wx,Gw w2 wx→Calls Tryz.prog 45 #[.slice A' ps.length c',.slice B' ps'.length d'] wx fun e w'=>e=.returned (.int .i64 (lexC (flatL ps) (flatL ps')))∧Gw wx w'):=Hd fun wx hx=>list_ref ps ps' hp (hP.later hx.below) (hP'.later hx.below)
 have K4:Hid (∀ wx,Gw w2 wx→Calls Tryz.prog 46 #[.slice A2' fs.length c2',.slice B2' fs'.length d2'] wx fun e w'=>e=.returned (.int .i64 (lexC (flatF fs) (flatF fs')))∧Gw wx w'):=Hd fun wx hx=>fields_ref fs fs' hf (hF.later hx.below) (hF'.later hx.below)
 have K5:Hid (∀ wx,Gw w2 wx→Calls Tryz.prog 47 #[.slice A3' vs.length c3',.slice B3' vs'.length d3'] wx fun e w'=>e=.returned (.int .i64 (lexC (flatV vs) (flatV vs')))∧Gw wx w'):=Hd fun wx hx=>vars_ref vs vs' hv (hV.later hx.below) (hV'.later hx.below)
 have HO:=Hd (ord_steps k t n ps fs vs k' s' n' ps' fs' vs')
 have Z0:=Hd (sgnZ k k')
 have Z1:=Hd (sgnB t s')
 have Z2:=Hd (sgnZ n n')
 generalize ordT (.mk k t n ps fs vs) (.mk k' s' n' ps' fs' vs')=oo at HO ⊢
 generalize cmpZ k k'=q0 at HO Z0
 generalize cmpB t s'=q1 at HO Z1
 generalize cmpZ n n'=q2 at HO Z2
 generalize lexC (flatL ps) (flatL ps')=q3 at HO K3
 generalize lexC (flatF fs) (flatF fs')=q4 at HO K4
 generalize lexC (flatV vs) (flatV vs')=q5 at HO K5
 clear h h' hb2 a1 a2 hP hF hV hP' hF' hV' hp hf hv hw2 x3 x4 x5 y3 y4 y5
 go_enter Tryz.func20,Tryz.ntmps20
 go_wp2_with fail
 rw[HE2.out]
 refine (sign_any _ _ _).mono ?_
 rintro e w3 ⟨rfl,rfl⟩
 rw[Z0.out]
 by_cases z0:q0=0
 ·have e0:(q0 == 0)=true:=by simpa using z0
  have Q0:=Hd z0
  clear z0
  go_wp2_with fail
  refine (sign_any _ _ _).mono ?_
  rintro e w3 ⟨rfl,rfl⟩
  rw[Z1.out]
  by_cases z1:q1=0
  ·have e1:(q1 == 0)=true:=by simpa using z1
   have Q1:=Hd z1
   clear z1
   go_wp2_with fail
   refine (sign_any _ _ _).mono ?_
   rintro e w3 ⟨rfl,rfl⟩
   rw[Z2.out]
   by_cases z2:q2=0
   ·have e2:(q2 == 0)=true:=by simpa using z2
    have Q2:=Hd z2
    clear z2
    obtain⟨⟨x3,x4,x5⟩,y3,y4,y5⟩:=HX.out _ (Gw.refl _)
    go_wp2_with fail
    clear x3 x4 x5 y3 y4 y5
    refine (K3.out _ (Gw.refl _)).mono ?_
    rintro e w3 ⟨rfl,hg⟩
    have HG3:=Hd (hg)
    clear hg
    by_cases z3:q3=0
    ·have e3:(q3 == 0)=true:=by simpa using z3
     have Q3:=Hd z3
     clear z3
     obtain⟨⟨x3,x4,x5⟩,y3,y4,y5⟩:=HX.out _ HG3.out
     go_wp2_with fail
     clear x3 x4 x5 y3 y4 y5
     refine (K4.out _ HG3.out).mono ?_
     rintro e w4 ⟨rfl,hg⟩
     have HG4:=Hd (HG3.out.trans hg)
     clear hg
     by_cases z4:q4=0
     ·have e4:(q4 == 0)=true:=by simpa using z4
      have Q4:=Hd z4
      clear z4
      obtain⟨⟨x3,x4,x5⟩,y3,y4,y5⟩:=HX.out _ HG4.out
      go_wp2_with fail
      clear x3 x4 x5 y3 y4 y5
      refine (K5.out _ HG4.out).mono ?_
      rintro e w5 ⟨rfl,hg⟩
      have HG5:=Hd (HG4.out.trans hg)
      clear hg
      go_wp2_with fail
      go_ret
      exact⟨by rw[HO.out,Q0.out,or2_zero,Q1.out,or2_zero,Q2.out,or2_zero,Q3.out,or2_zero,Q4.out,or2_zero];rfl,HB2.out.trans HG5.out⟩
     ·have e4:(q4 == 0)=false:=by simpa using z4
      have Q4:=Hd z4
      clear z4
      go_wp2_with fail
      go_ret
      exact⟨by rw[HO.out,Q0.out,or2_zero,Q1.out,or2_zero,Q2.out,or2_zero,Q3.out,or2_zero,or2_ne Q4.out];rfl,HB2.out.trans HG4.out⟩
    ·have e3:(q3 == 0)=false:=by simpa using z3
     have Q3:=Hd z3
     clear z3
     go_wp2_with fail
     go_ret
     exact⟨by rw[HO.out,Q0.out,or2_zero,Q1.out,or2_zero,Q2.out,or2_zero,or2_ne Q3.out];rfl,HB2.out.trans HG3.out⟩
   ·have e2:(q2 == 0)=false:=by simpa using z2
    have Q2:=Hd z2
    clear z2
    go_wp2_with fail
    go_ret
    exact⟨by rw[HO.out,Q0.out,or2_zero,Q1.out,or2_zero,or2_ne Q2.out];rfl,HB2.out⟩
  ·have e1:(q1 == 0)=false:=by simpa using z1
   have Q1:=Hd z1
   clear z1
   go_wp2_with fail
   go_ret
   exact⟨by rw[HO.out,Q0.out,or2_zero,or2_ne Q1.out];rfl,HB2.out⟩
 ·have e0:(q0 == 0)=false:=by simpa using z0
  have Q0:=Hd z0
  clear z0
  go_wp2_with fail
  go_ret
  exact⟨by rw[HO.out,or2_ne Q0.out];rfl,HB2.out⟩
theorem order_ref (t:Ty):OrdR t:=Ty.ind (C:=OrdR) (fun k t n ps fs vs hp hf hv=>ordr_step k t n ps fs vs hp hf hv) t
end Go.Proofs.YtlpfpehegddcfaaGreatDoor
