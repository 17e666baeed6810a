import Derived.Test.YtlpfpehegddcfaaGreatDoorMv9
namespace Go.Proofs.YtlpfpehegddcfaaGreatDoor
set_option maxRecDepth 100000
set_option maxHeartbeats 64000000
open Go.RowKit
def Jd6 {α:Type} (E:(Nat->Prop)->World->α->List Value->Prop):Prop:=∀ (K K':Nat->Prop) (w w':World) (a:α) (cs:List Value),(∀ b,K b->K' b/\(b<w.heap.size->w'.heap[b]?=w.heap[b]?))->E K w a cs->E K' w' a cs
structure OwnE {α:Type} (E:(Nat->Prop)->World->α->List Value->Prop) (T:TypeId) (z B:Nat) (w:World) (v:Value) (l:List α):Prop where
 ex:∃ vs,w.ownsRow B T z v l.length vs/\∀ i (h:i<l.length),∃ cs,E (fun b=>b<w.heap.size/\v.ownBlock≠some b) w l[i] cs/\cs.length=z/\∀ j u,cs[j]?=some u->vs[i*z+j]?=some u
theorem OwnE.nil {α:Type} {E:(Nat->Prop)->World->α->List Value->Prop} {T:TypeId} {z B:Nat} {w:World}:OwnE E T z B w (.slice none 0 0) []:=
 ⟨[],⟨by simp,.inl ⟨rfl,rfl⟩⟩,fun i h=>absurd h (by simp)⟩
structure Gro (v:Value) (w:World) (v':Value) (w':World):Prop where
 but:ButG (fun x=>v.ownBlock=some x) w w'
 own:v'.ownBlock=v.ownBlock\/∃ b,v'.ownBlock=some b/\w.heap.size<=b
theorem Gro.refl (v:Value) (w:World):Gro v w v w:=⟨ButG.refl _ _,.inl rfl⟩
theorem Gro.below {v:Value} {w w':World} (h:Below w.heap.size w w'):Gro v w v w':=⟨ButG.of_below h,.inl rfl⟩
theorem Gro.trans {v v1 v2:Value} {w w1 w2:World} (h:Gro v w v1 w1) (h':Gro v1 w1 v2 w2):Gro v w v2 w2:=by
 have hs:=h.but.size;refine⟨h.but.trans h'.but fun x hx=>?_,?_⟩
 ·rcases h.own with e | ⟨c,e,hc⟩
  ·exact .inl (by rw[<-e];exact hx)
  ·rw[e] at hx;injection hx with hx
   exact .inr (by omega)
 ·rcases h'.own with e | ⟨c,e,hc⟩
  ·rw[e];exact h.own
  ·exact .inr ⟨c,e,by omega⟩
def Off (v:Value) (w:World) (K:Nat->Prop):Prop:=∀ b,K b->b<w.heap.size/\v.ownBlock≠some b
theorem Gro.off {v v':Value} {w w':World} {K:Nat->Prop} (h:Gro v w v' w') (hk:Off v w K):Off v' w' K:=fun b hb=>by
 obtain⟨h1,h2⟩:=hk b hb;refine⟨Nat.lt_of_lt_of_le h1 h.but.size,?_⟩;rcases h.own with e | ⟨c,e,hc⟩
 ·rw[e];exact h2
 ·rw[e];intro e2;injection e2 with e2;omega
theorem Gro.cell {v v':Value} {w w':World} {b o:Nat} {u:Value} (h:Gro v w v' w') (hn:v.ownBlock≠some b) (hc:w.cell? ⟨b,o,none⟩=some u):w'.cell? ⟨b,o,none⟩=some u:=h.but.cell hn hc
theorem Gro.list {v v':Value} {w w':World} {K:Nat->Prop} {l:List Ty} {A:Option Addr} {c:Nat} (h:Gro v w v' w') (hk:Off v w K) (hL:ListT K w l A c):ListT K w' l A c:=by
 obtain⟨b,o,h1,h2⟩:=hL;refine⟨b,o,h1,fun i hi=>?_⟩;have hb:=(h1.some (by omega)).2;exact (h2 i hi).keep (fun _ h=>h) (fun x _ _ hx hc=>h.but.cell (hk x hx).2 hc) fun _ _ hc=>h.but.cell (hk b hb).2 hc
theorem OwnE.lt {α:Type} {E:(Nat->Prop)->World->α->List Value->Prop} {T:TypeId} {z B:Nat} {w:World} {v:Value} {l:List α} (h:OwnE E T z B w v l) {b:Nat} (hb:v.ownBlock=some b):B<=b/\b<w.heap.size:=by
 obtain⟨vs,h1,_⟩:=h;exact h1.lt b hb
theorem Hk {w w':World} {B T z n:Nat} {v:Value} {xs:List Value} (h:w.ownsRow B T z v n xs) (hk:∀ b,v.ownBlock=some b->w'.heap[b]?=w.heap[b]?):w'.ownsRow B T z v n xs:=by
 refine⟨h.1,?_⟩;rcases h.2 with h3 | ⟨g,cap,cur,hv,hg,hh,r⟩
 ·exact .inl h3
 ·exact .inr ⟨g,cap,cur,hv,hg,by rw[hk g (by rw[hv];rfl)];exact hh,r⟩
theorem OwnE.later {α:Type} {E:(Nat->Prop)->World->α->List Value->Prop} (hE:Jd6 E) {T:TypeId} {z B:Nat} {w w':World} {v:Value} {l:List α} (h:OwnE E T z B w v l) (hb:Below w.heap.size w w'):OwnE E T z B w' v l:=by
 have hlt:=fun b (e:v.ownBlock=some b)=>(h.lt e).2;obtain⟨vs,h1,h2⟩:=h;refine⟨vs,Hk h1 fun b e=>hb.block b (hlt b e),fun i hi=>?_⟩;obtain⟨cs,h3,h4,h5⟩:=h2 i hi;exact⟨cs,hE _ _ _ _ _ _ (fun b hx=>⟨⟨Nat.lt_of_lt_of_le hx.1 hb.size,hx.2⟩,fun hlt=>hb.block b hlt⟩) h3,h4,h5⟩
theorem OwnE.push {α:Type} {E:(Nat->Prop)->World->α->List Value->Prop} (hE:Jd6 E) {T:TypeId} {z B:Nat} {w wx w':World} {v v':Value} {l:List α} {a:α} {vs cs:List Value} (hown:w.ownsRow B T z v l.length vs)
  (hr:∀ i (h:i<l.length),∃ cs,E (fun b=>b<w.heap.size/\v.ownBlock≠some b) w l[i] cs/\cs.length=z/\∀ j u,cs[j]?=some u->vs[i*z+j]?=some u) (hb:Below w.heap.size w wx)
  (ha:E (fun b=>b<wx.heap.size/\v.ownBlock≠some b) wx a cs) (hz:cs.length=z) (ho:w'.ownsRow B T z v' (l.length+1) (vs++cs)) (hg:wx.grownBy w' v.ownBlock) (hob:v'.ownBlock=v.ownBlock\/v'.ownBlock=some wx.heap.size) :
  OwnE E T z B w' v' (l++[a])/\Gro v w v' w':=by
 have hvl:=hown.1;have hs:=hb.size;have hkeep:∀ b,b<wx.heap.size/\v.ownBlock≠some b->(b<w'.heap.size/\v'.ownBlock≠some b)/\w'.heap[b]?=wx.heap[b]?:=fun b hx=>by
  refine⟨⟨Nat.lt_of_lt_of_le hx.1 hg.size,?_⟩,hg.block b hx.1 fun e=>hx.2 e.symm⟩;rcases hob with e | e
  ·rw[e];exact hx.2
  ·rw[e];intro e2;injection e2 with e2;omega
 refine⟨⟨vs++cs,by rw[List.length_append];exact ho,fun i hi=>?_⟩,⟨(ButG.of_below hb).grown hg fun k hk=>.inl hk,?_⟩⟩
 ·rw[List.length_append,List.length_singleton] at hi;by_cases hlt:i<l.length
  ·obtain⟨cs',h1,h2,h3⟩:=hr i hlt;refine⟨cs',?_,h2,fun j u hj=>?_⟩
   ·rw[List.getElem_append_left hlt];refine hE _ _ _ _ _ _ (fun b hx=>?_) h1;have h4:=hkeep b ⟨by omega,hx.2⟩;exact⟨h4.1,fun _=>h4.2.trans (hb.block b hx.1)⟩
   ·have h4:=h3 j u hj;rw[List.getElem?_append_left (List.getElem?_eq_some_iff.1 h4).1];exact h4
  ·obtain rfl:i=l.length:=by omega
   refine⟨cs,?_,hz,fun j u hj=>?_⟩
   ·rw[List.getElem_append_right (by omega)];simp only[Nat.sub_self,List.getElem_cons_zero];exact hE _ _ _ _ _ _ (fun b hx=>⟨(hkeep b hx).1,fun _=>(hkeep b hx).2⟩) ha
   ·rw[List.getElem?_append_right (by omega),show l.length*z+j - vs.length=j from by omega];exact hj
 ·rcases hob with e | e
  ·exact .inl e
  ·exact .inr ⟨_,e,hs⟩
theorem OwnE.slice {α:Type} {E:(Nat->Prop)->World->α->List Value->Prop} {T:TypeId} {z B:Nat} {w:World} {v:Value} {l:List α} (h:OwnE E T z B w v l):∃ A c,v=.slice A l.length c/\((l=[]/\A=none/\c=0)\/∃ g,A=some ⟨g,0,none⟩/\B<=g/\g<w.heap.size)/\∀ i (h:i<l.length),∃ g cs,A=some ⟨g,0,none⟩/\E (fun b=>b<w.heap.size/\b≠g) w l[i] cs/\cs.length=z/\∀ j u,cs[j]?=some u->w.cell? ⟨g,i*z+j,none⟩=some u:=by
 obtain⟨vs,h1,h2⟩:=h;rcases h1.2 with ⟨hv,hn⟩ | ⟨g,cap,cur,hv,hg,hh,hle,hmax,hsz,htk⟩
 ·have hl:=List.eq_nil_of_length_eq_zero hn;subst hl;exact⟨none,0,hv,.inl ⟨rfl,rfl,rfl⟩,fun i hi=>absurd hi (by simp)⟩
 ·refine⟨_,cap,hv,.inr ⟨g,rfl,hg,(Array.getElem?_eq_some_iff.1 hh).1⟩,fun i hi=>?_⟩;obtain⟨cs,h3,h4,h5⟩:=h2 i hi;subst hv;refine⟨g,cs,rfl,?_,h4,fun j u hj=>?_⟩
  ·have e:(fun b=>b<w.heap.size/\(Value.slice (some ⟨g,0,none⟩) l.length cap).ownBlock≠some b)=fun b=>b<w.heap.size/\b≠g:=by
    funext b;simp only[Value.ownBlock,ne_eq,Option.some.injEq,eq_iff_iff,and_congr_right_iff];exact fun _=>⟨fun h e=>h e.symm,fun h e=>h e.symm⟩
   rw[<-e];exact h3
  ·have h6:=h5 j u hj;rw[<-htk,List.getElem?_take] at h6
   split at h6
   ·rw[Ch hh];simpa using h6
   ·cases h6
structure OutB (K:Nat->Prop) (w0 w:World) (B:Nat) (v:Value) (ts:List Ty):Prop where
 ex:∃ vs,w.ownsRow B 26 6 v ts.length vs/\∀ i (h:i<ts.length),∃ cs,RepT K w0 ts[i] cs/\∀ j u,cs[j]?=some u->vs[i*6+j]?=some u
theorem OutB.nil (K:Nat->Prop) (w0 w:World) (B:Nat):OutB K w0 w B (.slice none 0 0) []:=⟨[],⟨by simp,.inl ⟨rfl,rfl⟩⟩,fun i h=>absurd h (by simp)⟩
theorem OutB.later {K:Nat->Prop} {w0 w w':World} {B:Nat} {v:Value} {ts:List Ty} (h:OutB K w0 w B v ts) (hb:Below w.heap.size w w'):OutB K w0 w' B v ts:=by
 obtain⟨vs,h1,h2⟩:=h;exact⟨vs,Hk h1 fun b e=>hb.block b (h1.lt b e).2,h2⟩
theorem OutB.push {K:Nat->Prop} {w0 w':World} {B:Nat} {v':Value} {ts:List Ty} {t:Ty} {vs cs:List Value} (hl:vs.length=ts.length*6) (h:∀ i (h:i<ts.length),∃ cs,RepT K w0 ts[i] cs/\∀ j u,cs[j]?=some u->vs[i*6+j]?=some u)
  (ht:RepT K w0 t cs) (ho:w'.ownsRow B 26 6 v' (ts.length+1) (vs++cs)):OutB K w0 w' B v' (ts++[t]):=by
 refine⟨⟨vs++cs,by rw[List.length_append];exact ho,fun i hi=>?_⟩⟩;rw[List.length_append,List.length_singleton] at hi;by_cases hlt:i<ts.length
 ·obtain⟨cs',h1,h2⟩:=h i hlt;refine⟨cs',by rw[List.getElem_append_left hlt];exact h1,fun j u hj=>?_⟩;have h3:=h2 j u hj;rw[List.getElem?_append_left (List.getElem?_eq_some_iff.1 h3).1];exact h3
 ·obtain rfl:i=ts.length:=by omega
  refine⟨cs,by rw[List.getElem_append_right (by omega)];simpa using ht,fun j u hj=>?_⟩;rw[List.getElem?_append_right (by omega),show ts.length*6+j - vs.length=j from by omega];exact hj
theorem OutB.list {K:Nat->Prop} {w0 w:World} {B:Nat} {v:Value} {ts:List Ty} (h:OutB K w0 w B v ts) (hlo:∀ b,K b->b<w0.heap.size) (hb:Below w0.heap.size w0 w) (hl:ts.length<=1000000000000000):∃ A c,v=.slice A ts.length c/\ListT (fun b=>K b\/B<=b) w ts A c:=by
 obtain⟨vs,h1,h2⟩:=h;rcases h1.2 with ⟨hv,hn⟩ | ⟨g,cap,cur,hv,hg,hh,hle,hmax,hsz,htk⟩
 ·have hts:=List.eq_nil_of_length_eq_zero hn;subst hts;exact⟨none,0,hv,⟨0,0,⟨by simp,by simp,fun _=>rfl,fun h=>absurd h (by simp)⟩,fun i h=>absurd h (by simp)⟩⟩
 ·refine⟨_,cap,hv,⟨g,0,⟨hle,hl,(fun h=>by cases h),fun _=>⟨rfl,.inr hg⟩⟩,fun i hi=>?_⟩⟩;obtain⟨cs,h4,h5⟩:=h2 i hi;refine⟨cs,fun j u hj=>?_,RepT.keep (fun _ h=>.inl h) (fun b o v hk hc=>(World.cell?_of_block (hb.block b (hlo b hk))).trans hc) _ _ h4⟩;have h6:=h5 j u hj;rw[<-htk,List.getElem?_take] at h6
  split at h6
  ·rw[Nat.zero_add,Ch hh];simpa using h6
  ·cases h6
theorem OwnE.base {α:Type} {E:(Nat->Prop)->World->α->List Value->Prop} {T:TypeId} {z B B':Nat} {w:World} {v:Value} {l:List α} (h:OwnE E T z B w v l) (hB:B'<=B):OwnE E T z B' w v l:=by
 obtain⟨vs,h1,h2⟩:=h;refine⟨vs,⟨h1.1,?_⟩,h2⟩;rcases h1.2 with h3 | ⟨g,cap,cur,hv,hg,r⟩
 ·exact .inl h3
 ·exact .inr ⟨g,cap,cur,hv,Nat.le_trans hB hg,r⟩
theorem Kb (K:Nat->Prop) (w:World):RepT K w (E7 1) [.int .i64 1,.string ⟨#[]⟩,.int .i64 0,.slice none 0 0,.slice none 0 0,.slice none 0 0]:=
 RepT.of (by decide) ⟨⟨0,0,⟨by simp,by decide,fun _=>rfl,fun h=>absurd h (by simp)⟩,fun i h=>absurd h (by simp)⟩⟩ ⟨⟨0,0,⟨by simp,by decide,fun _=>rfl,fun h=>absurd h (by simp)⟩,fun i h=>absurd h (by simp)⟩⟩ ⟨⟨0,0,⟨by simp,by decide,fun _=>rfl,fun h=>absurd h (by simp)⟩,fun i h=>absurd h (by simp)⟩⟩
theorem Kg {b:Nat} (W:World) (y0 y1 y2 y3 y4 y5:Value) {p:Addr} (h:p.block≠b):((((((W.setCell ⟨b,0,none⟩ y0).setCell ⟨b,1,none⟩ y1).setCell ⟨b,2,none⟩ y2).setCell ⟨b,3,none⟩ y3).setCell ⟨b,4,none⟩ y4).setCell ⟨b,5,none⟩ y5).cell? p=W.cell? p:=by
 refine World.cell?_of_block ?_;rw[Below.heap_setCell _ _ _ _ h,Below.heap_setCell _ _ _ _ h,Below.heap_setCell _ _ _ _ h,Below.heap_setCell _ _ _ _ h,Below.heap_setCell _ _ _ _ h,Below.heap_setCell _ _ _ _ h]
theorem N2:∀ l:List Ty,(Bw l).length<=l.length
 | []=>Nat.le_refl _
 | [a]=>Nat.le_refl _
 | a :: b :: l=>by
  have ih:=N2 (b :: l);rw[Bw]
  split
  ·exact Nat.le_trans ih (Nat.le_succ _)
  ·simpa using ih
theorem Ii {K:Nat->Prop} {w w1 W:World} {t:Ty} {cs:List Value} (h:RepT K w1 t cs) (hlo:∀ b,K b->b<w.heap.size) (hb:Below w1.heap.size w1 W) (y0 y1 y2 y3 y4 y5:Value) :
  RepT (fun b=>K b\/w.heap.size<=b) ((((((W.setCell ⟨w.heap.size,0,none⟩ y0).setCell ⟨w.heap.size,1,none⟩ y1).setCell ⟨w.heap.size,2,none⟩ y2).setCell ⟨w.heap.size,3,none⟩ y3).setCell ⟨w.heap.size,4,none⟩ y4).setCell ⟨w.heap.size,5,none⟩ y5) t cs:=
 RepT.keep (fun _ h=>.inl h) (fun b o v hk hc=>by
  rw[Kg W y0 y1 y2 y3 y4 y5 (p:=⟨b,o,none⟩) (by have:=hlo b hk;show b≠_;omega)];exact Aa hb hc) t cs h
theorem Jat {K:Nat->Prop} {w w1 W:World} {g c:Nat} {dd:List Ty} (h:InT K w1 W g c dd) (hlo:∀ b,K b->b<w.heap.size) (hb:Below w1.heap.size w1 W) (hg:w.heap.size<g) (hl:dd.length<=1000000000000000) (y0 y1 y2 y3 y4 y5:Value) :
  RepT (fun b=>K b\/w.heap.size<=b) ((((((W.setCell ⟨w.heap.size,0,none⟩ y0).setCell ⟨w.heap.size,1,none⟩ y1).setCell ⟨w.heap.size,2,none⟩ y2).setCell ⟨w.heap.size,3,none⟩ y3).setCell ⟨w.heap.size,4,none⟩ y4).setCell ⟨w.heap.size,5,none⟩ y5) (.mk 15 Bk 0 dd [] []) [.int .i64 15,.string ⟨#[]⟩,.int .i64 0,.slice (some ⟨g,0,none⟩) dd.length dd.length,.slice none 0 0,.slice none 0 0]:=by
 refine RepT.of (by decide) ⟨⟨g,0,⟨Nat.le_refl _,hl,(fun h=>by cases h),fun _=>⟨rfl,.inr (Nat.le_of_lt hg)⟩⟩,fun i hi=>?_⟩⟩ ⟨⟨0,0,⟨by simp,by decide,fun _=>rfl,fun h=>absurd h (by simp)⟩,fun i h=>absurd h (by simp)⟩⟩ ⟨⟨0,0,⟨by simp,by decide,fun _=>rfl,fun h=>absurd h (by simp)⟩,fun i h=>absurd h (by simp)⟩⟩;obtain⟨cs,h1,h2⟩:=h.reps i dd[i] (List.getElem?_eq_getElem hi);refine⟨cs,fun j u hj=>?_,Ii h1 hlo hb _ _ _ _ _ _⟩;rw[Kg W y0 y1 y2 y3 y4 y5 (p:=⟨g,0+i*6+j,none⟩) (by show g≠_;omega),Nat.zero_add];exact h2 j u hj
theorem Cb {B b:Nat} {a W:World} (h:Below B a W) (hb:B<=b) (y0 y1 y2 y3 y4 y5:Value):Below B a ((((((W.setCell ⟨b,0,none⟩ y0).setCell ⟨b,1,none⟩ y1).setCell ⟨b,2,none⟩ y2).setCell ⟨b,3,none⟩ y3).setCell ⟨b,4,none⟩ y4).setCell ⟨b,5,none⟩ y5):=
 (((((h.setCell hb y0).setCell hb y1).setCell hb y2).setCell hb y3).setCell hb y4).setCell hb y5
theorem Xf (hS:Jd8) (hSN:Jd7) (hC:Jd4) (hCN:Jd3) {K:Nat->Prop} {w:World} {l:List Ty} {A:Option Addr} {c:Nat} (hL:ListT K w l A c) (hbd:(Bb l).length<=1099511627776) (hlo:∀ b,K b->b<w.heap.size) :
  Calls Tryz.prog 68 #[.slice A l.length c] w (Gl K w l):=by
 have hb1:Below w.heap.size w (w.alloc (.cells #[.int .i64 0,.string ⟨#[]⟩,.int .i64 0,.slice none 0 0,.slice none 0 0,.slice none 0 0] 26)):=(Below.refl _ _).alloc (Nat.le_refl _) _;have KF:=Hd (Yj l K (w.alloc (.cells #[.int .i64 0,.string ⟨#[]⟩,.int .i64 0,.slice none 0 0,.slice none 0 0,.slice none 0 0] 26)) ((w.alloc (.cells #[.int .i64 0,.string ⟨#[]⟩,.int .i64 0,.slice none 0 0,.slice none 0 0,.slice none 0 0] 26)).alloc (.cells #[.bool false,.bool false,.bool false,.bool false] 143)) A c (.slice none 0 0) [] (w.heap.size+1) ⟨false,false,false,false⟩ (hL.later hb1) ((Below.refl _ _).alloc (Nat.le_refl _) _) (by simp) (by
  have h:=heap_alloc_new (w.alloc (.cells #[.int .i64 0,.string ⟨#[]⟩,.int .i64 0,.slice none 0 0,.slice none 0 0,.slice none 0 0] 26)) (.cells #[.bool false,.bool false,.bool false,.bool false] 143);rw[World.size_alloc] at h;exact h) ⟨⟨[],World.ownsRow_nil _ _ _ _,fun i h=>absurd h (by simp)⟩⟩ (by simpa using hbd))
 have RB:Hid (∀ W,Below (w.alloc (.cells #[.int .i64 0,.string ⟨#[]⟩,.int .i64 0,.slice none 0 0,.slice none 0 0,.slice none 0 0] 26)).heap.size (w.alloc (.cells #[.int .i64 0,.string ⟨#[]⟩,.int .i64 0,.slice none 0 0,.slice none 0 0,.slice none 0 0] 26)) W->W.heap[w.heap.size]?=some (.cells #[.int .i64 0,.string ⟨#[]⟩,.int .i64 0,.slice none 0 0,.slice none 0 0,.slice none 0 0] 26 (0,0))):=Hd fun W hb=>(hb.block w.heap.size (by simp)).trans (heap_alloc_new w _);have HB1:=Hd hb1;have HS:=Hd hS;have HSN:=Hd hSN;have HC:=Hd hC;have HCN:=Hd hCN;have HBD:=Hd hbd;have HLO:=Hd hlo;rw[M6] at KF;unfold Gl;rw[show Bi l=Fq (C0 ((Bb l).filter (Cx (Bs (Bb l))))) from rfl];generalize Bs (Bb l)=hk at KF ⊢;generalize Bb l=ts at KF HBD ⊢;have hw1s:(w.alloc (.cells #[.int .i64 0,.string ⟨#[]⟩,.int .i64 0,.slice none 0 0,.slice none 0 0,.slice none 0 0] 26)).heap.size=w.heap.size+1:=by simp
 have HW1:=Hd hw1s;clear hL hbd hlo hb1 hS hSN hC hCN hw1s;obtain⟨i0,hi0,hz0,hz1,hz2⟩:=D4 Hh;generalize hw1:(w.alloc (.cells #[.int .i64 0,.string ⟨#[]⟩,.int .i64 0,.slice none 0 0,.slice none 0 0,.slice none 0 0] 26))=w1 at KF RB HB1 HW1;have HE1:=Hd hw1;clear hw1;go_enter Tryz.func68,Tryz.ntmps68;go_wp2_with fail;rw[HE1.out];refine KF.out.mono ?_;rintro e w3 ⟨v3,rfl,ho,hkb,hb3⟩;rw[List.nil_append] at ho;have HB3:=Hd hb3;have HKB:=Hd hkb;rcases InT.of_out ho with ⟨rfl,rfl⟩ | ⟨g,cc,rfl,hg,hin⟩
 ·clear KF ho hkb hb3;go_wp2_with fail
  go_loopw [5,14] (fun kv v wr=>kv=.slice none 0 0/\v=.int .i64 0/\Below w1.heap.size w1 wr) (fun _ _ _=>0)
  case atStart=>exact⟨rfl,rfl,HB3.out⟩
  case round=>
   obtain⟨rfl,rfl,hbr⟩:=hrel;have HBr:=Hd hbr;clear hbr;go_wp2_with fail;refine (HSN.out _).mono ?_;rintro e w5 ⟨rfl,hb5⟩;have HB5:=Hd (HBr.out.trans (hb5.mono HBr.out.size));clear hb5;go_wp2_with fail;refine (HCN.out _).mono ?_;rintro e w6 ⟨rfl,hb6⟩;have HB6:=Hd (HB5.out.trans (hb6.mono HB5.out.size));clear hb6;have rb:=RB.out _ HB6.out;have q0:=Ch rb 0;have q1:=Ch rb 1;have q2:=Ch rb 2;have q3:=Ch rb 3;have q4:=Ch rb 4;have q5:=Ch rb 5;have z0:=Lib.frozen_of_heap rb 0;have z1:=Lib.frozen_of_heap rb 1;have z2:=Lib.frozen_of_heap rb 2;have z3:=Lib.frozen_of_heap rb 3;have z4:=Lib.frozen_of_heap rb 4;have z5:=Lib.frozen_of_heap rb 5;have rs:=B5 rb (.int .i64 1) (.string ⟨#[]⟩) (.int .i64 0) (.slice none 0 0) (.slice none 0 0) (.slice none 0 0);have r0:=Ch rs 0;have r1:=Ch rs 1;have r2:=Ch rs 2;have r3:=Ch rs 3;have r4:=Ch rs 4;have r5:=Ch rs 5;clear rb rs;go_wp2_with fail;refine bodyPost_ret (v:=.agg #[.int .i64 1,.string ⟨#[]⟩,.int .i64 0,.slice none 0 0,.slice none 0 0,.slice none 0 0]) (by simp[results,Tryz.results68,go_sem,r0,r1,r2,r3,r4,r5]) rfl ?_;clear r0 r1 r2 r3 r4 r5 q0 q1 q2 q3 q4 q5 z0 z1 z2 z3 z4 z5;exact⟨[.int .i64 1,.string ⟨#[]⟩,.int .i64 0,.slice none 0 0,.slice none 0 0,.slice none 0 0],rfl,Kb _ _,Cb (Cp HB1.out HB6.out) (Nat.le_refl _) _ _ _ _ _ _⟩
 ·have HIN:=Hd hin;have HG:=Hd hg;have hcap:=hin.le;have hmx:=hin.mx;unfold maxLen at hmx;clear KF ho hkb hb3 hin hg;go_wp2_with fail
  go_loopw [5,14] (fun kv v wr=>∃ (i:Nat) (F:List Ty),v=.int .i64 i/\kv=.slice (some ⟨g,0,none⟩) F.length cc/\KeepR K w1 wr (w.heap.size+1) g cc hk ts i F) (fun _ v _=>ts.length - (intOf v).toNat)
  case atStart=>exact⟨0,[],rfl,rfl,by omega,by simp,HKB.out,HB3.out,by simpa using HIN.out⟩
  case round=>
   obtain⟨i,F,rfl,rfl,hr⟩:=hrel;have HR:=Hd hr;by_cases hlt:i<ts.length
   ·obtain⟨cs,hrep,hcs⟩:=hr.at hlt;have hfl:=hr.fle;have hnx:=fun (wy:World) hkf hb=>hr.next (w':=wy) hlt hkf hb;have hpu:=fun (wy:World) hb hk=>hr.push (wy:=wy) (cs:=cs) hlt hk hb HG.out hrep;have HNX:=Hd hnx;have HPU:=Hd hpu;have ti:decide ((i:Int)<(ts.length:Int))=true:=(by simp;omega);have wr2:wrap64 ((i:Int)+1)=((i+1:Nat):Int):=Ao (by have:=HBD.out;omega);have HL:=Hd hlt;generalize ts[i]=t at hrep HNX HPU;obtain⟨k,s,n,ps,fs,ws⟩:=t;obtain⟨Ap,cp,Af,cf,Av,cv,rfl,-⟩:=hrep.inv;simp only[Ar] at hcs hrep HPU;have x0:wr.cell? ⟨g,i*6,none⟩=some (.int .i64 k):=hcs 0 _ rfl;have x1:=hcs 1 _ rfl;have x2:=hcs 2 _ rfl;have x3:=hcs 3 _ rfl;have x4:=hcs 4 _ rfl;have x5:=hcs 5 _ rfl;have hbx:Below wr.heap.size wr (wr.alloc (.cells #[.int .i64 k,.string s,.int .i64 n,.slice Ap ps.length cp,.slice Af fs.length cf,.slice Av ws.length cv] 26)):=(Below.refl _ _).alloc (Nat.le_refl _) _;have KK:=Hd (Rg (K:=K) (w:=wr.alloc (.cells #[.int .i64 k,.string s,.int .i64 n,.slice Ap ps.length cp,.slice Af fs.length cf,.slice Av ws.length cv] 26)) (g:=w.heap.size+1) (h:=hk) (t:=.mk k s n ps fs ws) (b:=wr.heap.size) (o:=0) (by
     unfold KB;rw[hbx.block _ (Array.getElem?_eq_some_iff.1 HR.out.kb).1];exact HR.out.kb) (AtT.box _ (hrep.later (HR.out.below))))
    have HBx:=Hd hbx;generalize hkt:Cx hk (.mk k s n ps fs ws)=q at KK HNX HPU;clear hr hrep hcs hnx hpu hbx hkt;go_wp2_with fail;refine KK.out.mono ?_;rintro e w5 ⟨rfl,rfl⟩;have b0:=World.cell?_alloc_new wr #[.int .i64 k,.string s,.int .i64 n,.slice Ap ps.length cp,.slice Af fs.length cf,.slice Av ws.length cv] 26
    cases q with
    | false=>
     go_wp2_with fail;refine⟨⟨i+1,F,by first | rfl | rw[wr2],rfl,HNX.out _ (by trivial) HBx.out⟩,?_⟩;first | exact Ba HL.out | exact Ed HL.out | (rw[wr2];exact Ba HL.out)
    | true=>
     have HB6:=Hd (HBx.out.alloc (by simp) (.cells #[.int .i64 k,.string s,.int .i64 n,.slice Ap ps.length cp,.slice Af fs.length cf,.slice Av ws.length cv] 26));have HFl:Hid (F.length+1<=cc):=Hd (by omega);have HC6:=Hd (Dn (wr.alloc (.cells #[.int .i64 k,.string s,.int .i64 n,.slice Ap ps.length cp,.slice Af fs.length cf,.slice Av ws.length cv] 26)) [.int .i64 k,.string s,.int .i64 n,.slice Ap ps.length cp,.slice Af fs.length cf,.slice Av ws.length cv] 26);rw[World.size_alloc] at HC6;clear hfl x0 x1 x2 x3 x4 x5;go_wp2_with (at_builtin;refine wpList_plain rfl fun K hK=>?_;go_loud (refine Nk _ _ 22 rfl 26 i0 6 Tryz.underlying22 hi0 hz1 g 0 F.length cc rfl ⟨wr.heap.size+1,0,none⟩ 1 1 [.int .i64 k,.string s,.int .i64 n,.slice Ap ps.length cp,.slice Af fs.length cf,.slice Av ws.length cv] rfl rfl ?a0 ?a1 ?a2 (F.length*6) (by omega) ?a3 ?_))
     case a0=>exact HC6.out
     case a1=>
      intro u hu;simp only[List.mem_cons,List.not_mem_nil,or_false] at hu;rcases hu with rfl | rfl | rfl | rfl | rfl | rfl <;> rfl
     case a2=>exact HFl.out
     case a3=>
      intro j hj;have hj6:j<6:=hj;exact (HR.out.row.later HB6.out).there (by have:=HFl.out;omega)
     refine⟨⟨i+1,_,by first | rfl | rw[wr2],?p1,HPU.out _ HB6.out (by trivial)⟩,?_⟩
     case p1=>simp
     first | exact Ba HL.out | exact Ed HL.out | (rw[wr2];exact Ba HL.out)
   ·have ti:decide ((i:Int)<(ts.length:Int))=false:=(by simp;omega);have HFf:Hid (F=ts.filter (Cx hk)):=Hd (by rw[hr.f,List.take_of_length_le (by omega)]);have HFl:Hid (F.length<=1099511627776):=Hd (by have h1:=hr.fle;have h2:=hr.le;have h3:=HBD.out;omega);have KS:=Hd (HS.out K w1 wr g cc F hr.row.pre hr.below HG.out HFl.out);clear hr;go_wp2_with fail;refine KS.out.mono ?_;rintro e w5 ⟨rfl,hb5,s,hws,hmem,hlen,hin5⟩;have KC:=Hd (HC.out K w1 w5 g cc s hin5 hb5 HG.out (by rw[hlen];exact HFl.out));rw[hlen] at KC;have HSD:=Hd (Tk hws hmem);have HDl:Hid ((Bw s).length<=1099511627776):=Hd (by have h1:=N2 s;have h2:=HFl.out;omega);clear hb5 hws hmem hlen hin5 KS;go_wp2_with fail;refine KC.out.mono ?_;rintro e w6 ⟨rfl,hb6,hin6⟩;have HB6:=Hd hb6;have HIN6:=Hd hin6;clear hb6 hin6 KC;generalize Bw s=d at HSD HDl HIN6
    cases d with
    | nil=>
     have rb:=RB.out _ HB6.out;have q0:=Ch rb 0;have q1:=Ch rb 1;have q2:=Ch rb 2;have q3:=Ch rb 3;have q4:=Ch rb 4;have q5:=Ch rb 5;have z0:=Lib.frozen_of_heap rb 0;have z1:=Lib.frozen_of_heap rb 1;have z2:=Lib.frozen_of_heap rb 2;have z3:=Lib.frozen_of_heap rb 3;have z4:=Lib.frozen_of_heap rb 4;have z5:=Lib.frozen_of_heap rb 5;have rs:=B5 rb (.int .i64 1) (.string ⟨#[]⟩) (.int .i64 0) (.slice none 0 0) (.slice none 0 0) (.slice none 0 0);have r0:=Ch rs 0;have r1:=Ch rs 1;have r2:=Ch rs 2;have r3:=Ch rs 3;have r4:=Ch rs 4;have r5:=Ch rs 5;clear rb rs;go_wp2_with fail;refine bodyPost_ret (v:=.agg #[.int .i64 1,.string ⟨#[]⟩,.int .i64 0,.slice none 0 0,.slice none 0 0,.slice none 0 0]) (by simp[results,Tryz.results68,go_sem,r0,r1,r2,r3,r4,r5]) rfl ?_;clear r0 r1 r2 r3 r4 r5 q0 q1 q2 q3 q4 q5 z0 z1 z2 z3 z4 z5;exact⟨[.int .i64 1,.string ⟨#[]⟩,.int .i64 0,.slice none 0 0,.slice none 0 0,.slice none 0 0],rfl,by rw[<-HFf.out,HSD.out];exact Kb _ _,Cb (Cp HB1.out HB6.out) (Nat.le_refl _) _ _ _ _ _ _⟩
    | cons x d=>
    cases d with
    | nil=>
     obtain⟨cs,hrep,hcs⟩:=HIN6.out.reps 0 x rfl;obtain⟨k,s,n,ps,fs,ws⟩:=x;obtain⟨Ap,cp,Af,cf,Av,cv,rfl,-⟩:=hrep.inv;simp only[Ar] at hcs hrep;have HREP:=Hd hrep;have x0:w6.cell? ⟨g,0,none⟩=some (.int .i64 k):=hcs 0 _ rfl;have x1:w6.cell? ⟨g,1,none⟩=some (.string s):=hcs 1 _ rfl;have x2:w6.cell? ⟨g,2,none⟩=some (.int .i64 n):=hcs 2 _ rfl;have x3:w6.cell? ⟨g,3,none⟩=some (.slice Ap ps.length cp):=hcs 3 _ rfl;have x4:w6.cell? ⟨g,4,none⟩=some (.slice Af fs.length cf):=hcs 4 _ rfl;have x5:w6.cell? ⟨g,5,none⟩=some (.slice Av ws.length cv):=hcs 5 _ rfl;have hcap6:1<=cc:=HIN6.out.le;clear hcs hrep;have rb:=RB.out _ HB6.out;have q0:=Ch rb 0;have q1:=Ch rb 1;have q2:=Ch rb 2;have q3:=Ch rb 3;have q4:=Ch rb 4;have q5:=Ch rb 5;have z0:=Lib.frozen_of_heap rb 0;have z1:=Lib.frozen_of_heap rb 1;have z2:=Lib.frozen_of_heap rb 2;have z3:=Lib.frozen_of_heap rb 3;have z4:=Lib.frozen_of_heap rb 4;have z5:=Lib.frozen_of_heap rb 5;have rs:=B5 rb (.int .i64 k) (.string s) (.int .i64 n) (.slice Ap ps.length cp) (.slice Af fs.length cf) (.slice Av ws.length cv);have r0:=Ch rs 0;have r1:=Ch rs 1;have r2:=Ch rs 2;have r3:=Ch rs 3;have r4:=Ch rs 4;have r5:=Ch rs 5;clear rb rs;go_wp2_with fail;refine bodyPost_ret (v:=.agg #[.int .i64 k,.string s,.int .i64 n,.slice Ap ps.length cp,.slice Af fs.length cf,.slice Av ws.length cv]) (by simp[results,Tryz.results68,go_sem,r0,r1,r2,r3,r4,r5]) rfl ?_;clear r0 r1 r2 r3 r4 r5 q0 q1 q2 q3 q4 q5 z0 z1 z2 z3 z4 z5;exact⟨[.int .i64 k,.string s,.int .i64 n,.slice Ap ps.length cp,.slice Af fs.length cf,.slice Av ws.length cv],rfl,by rw[<-HFf.out,HSD.out];exact Ii HREP.out HLO.out HB6.out _ _ _ _ _ _,Cb (Cp HB1.out HB6.out) (Nat.le_refl _) _ _ _ _ _ _⟩
    | cons y d=>
     have hd0:((x :: y :: d).length:Int)≠0:=(by simp;omega);have hd1:((x :: y :: d).length:Int)≠1:=(by simp;omega);have te0:(((x :: y :: d).length:Int) == 0)=false:=(by simpa using hd0);have te1:(((x :: y :: d).length:Int) == 1)=false:=(by simpa using hd1);have KCl:=Hd (X4 (some ⟨g,0,none⟩) (x :: y :: d).length cc w6 HIN6.out.le);have HD2:Hid (C0 F=x :: y :: d):=HSD;have HDl2:Hid ((x :: y :: d).length<=1099511627776):=HDl;have hun:Fq (x :: y :: d)=.mk 15 Bk 0 (x :: y :: d) [] []:=rfl;generalize x :: y :: d=dd at *;have HUN:=Hd hun;clear hd0 hd1 hun;go_wp2_with fail;refine KCl.out.mono ?_;rintro e w7 ⟨rfl,rfl⟩;clear KCl;have rb:=RB.out _ HB6.out;have q0:=Ch rb 0;have q1:=Ch rb 1;have q2:=Ch rb 2;have q3:=Ch rb 3;have q4:=Ch rb 4;have q5:=Ch rb 5;have z0:=Lib.frozen_of_heap rb 0;have z1:=Lib.frozen_of_heap rb 1;have z2:=Lib.frozen_of_heap rb 2;have z3:=Lib.frozen_of_heap rb 3;have z4:=Lib.frozen_of_heap rb 4;have z5:=Lib.frozen_of_heap rb 5;have rs:=B5 rb (.int .i64 15) (.string ⟨#[]⟩) (.int .i64 0) (.slice (some ⟨g,0,none⟩) dd.length dd.length) (.slice none 0 0) (.slice none 0 0);have r0:=Ch rs 0;have r1:=Ch rs 1;have r2:=Ch rs 2;have r3:=Ch rs 3;have r4:=Ch rs 4;have r5:=Ch rs 5;clear rb rs;go_wp2_with fail;refine bodyPost_ret (v:=.agg #[.int .i64 15,.string ⟨#[]⟩,.int .i64 0,.slice (some ⟨g,0,none⟩) dd.length dd.length,.slice none 0 0,.slice none 0 0]) (by simp[results,Tryz.results68,go_sem,r0,r1,r2,r3,r4,r5]) rfl ?_;clear r0 r1 r2 r3 r4 r5 q0 q1 q2 q3 q4 q5 z0 z1 z2 z3 z4 z5;exact⟨[.int .i64 15,.string ⟨#[]⟩,.int .i64 0,.slice (some ⟨g,0,none⟩) dd.length dd.length,.slice none 0 0,.slice none 0 0],rfl,by rw[<-HFf.out,HD2.out,HUN.out];exact Jat HIN6.out HLO.out HB6.out (by have h1:=HG.out;have h2:=HW1.out;omega) (by have:=HDl2.out;omega) _ _ _ _ _ _,Cb (Cp HB1.out HB6.out) (Nat.le_refl _) _ _ _ _ _ _⟩
end Go.Proofs.YtlpfpehegddcfaaGreatDoor
