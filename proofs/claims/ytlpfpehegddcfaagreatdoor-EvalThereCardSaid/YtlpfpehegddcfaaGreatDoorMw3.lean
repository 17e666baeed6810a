import Derived.Test.YtlpfpehegddcfaaGreatDoorMw2
namespace Go.Proofs.YtlpfpehegddcfaaGreatDoor
set_option maxRecDepth 100000
set_option maxHeartbeats 64000000
open Go.RowKit
theorem Ei {l:List Ty}{x:Ty}:x∈Bk l↔∃p∈l,x∈C6 p:=by
 unfold Bk;rw[List.mem_flatten]
 constructor
 ·rintro⟨m,hm,hx⟩;obtain⟨p,hp,rfl⟩:=List.mem_map.1 hm;exact⟨p,hp,hx⟩
 ·rintro⟨p,hp,hx⟩;exact⟨_,List.mem_map.2 ⟨p,hp,rfl⟩,hx⟩
theorem Db {l:List Ty}{x:Ty}:x∈Cy l↔x∈Bk l/\Dn (Cp (Bk l)) x=true:=List.mem_filter
theorem G9 {k:Int}{l:List Ty}:Cv k l=true↔∃t∈l,t.k=k:=by
 unfold Cv;rw[List.any_eq_true];simp
theorem Ie {k:Int}{l l':List Ty}(h:∀x,x∈l↔x∈l'):Cv k l=Cv k l':=by
 rw[Bool.eq_iff_iff,G9,G9]
 constructor
 ·rintro⟨t,a,b⟩;exact⟨t,(h t).1 a,b⟩
 ·rintro⟨t,a,b⟩;exact⟨t,(h t).2 a,b⟩
theorem Mk {l l':List Ty}(h:∀x,x∈l↔x∈l'):Cp l=Cp l':=by
 unfold Cp;rw[Ie h,Ie h,Ie h,Ie h]
theorem U7 {l l':List Ty}(h:∀x,x∈l↔x∈l'):Dg l=Dg l':=
 Gv (F5 _) (F5 _) fun x=>by rw[Dj,Dj];exact h x
theorem Ot {l l':List Ty}(h:∀x,x∈Cy l↔x∈Cy l'):Bl l=Bl l':=by
 unfold Bl;rw[U7 h]
theorem Mv {l l':List Ty}(h:∀x,x∈Bk l↔x∈Bk l'):Bl l=Bl l':=
 Ot fun x=>by rw[Db,Db,Mk h,h x]
theorem Vd {l l':List Ty}(h:∀x,x∈l↔x∈l'):Bl l=Bl l':=
 Mv fun x=>by
  rw[Ei,Ei]
  constructor
  ·rintro⟨p,a,b⟩;exact⟨p,(h p).1 a,b⟩
  ·rintro⟨p,a,b⟩;exact⟨p,(h p).2 a,b⟩
theorem Q5 (t:Ty):∀x∈C6 t,x.k≠15:=by
 refine Ty.ind (C:=fun t=>∀x∈C6 t,x.k≠15) (fun k t n ps fs vs hp _ _ x hx=>?_) t;rw[Cw]at hx;by_cases h:k=15
 ·rw[if_pos h,Ei]at hx;obtain⟨p,hm,hx⟩:=hx;exact hp p hm x hx
 ·rw[if_neg h,List.mem_singleton]at hx;subst hx;exact h
theorem Jk {l:List Ty}{x:Ty}(h:x∈Cy l):x.k≠15:=by
 obtain⟨p,_,hx⟩:=Ei.1 (Db.1 h).1;exact Q5 p x hx
theorem Jbi {l:List Ty}{x:Ty}(h:x∈Cy l):x.k≠1:=by
 intro e;have:=(Db.1 h).2;unfold Dn at this;rw[if_pos e]at this
 cases this
def I1 (t:Ty):List Ty:=if t.k=15 then t.ps else if t.k=1 then [] else [t]
theorem U1:∀ {s:List Ty},(∀x∈s,x.k≠15/\x.k≠1)->I1 (Hv s)=s
 | [],_=>rfl
 | [x],h=>by
  obtain⟨h1,h2⟩:=h x (by simp);show (if x.k=15 then x.ps else if x.k=1 then [] else [x])=[x];rw[if_neg h1,if_neg h2]
 | x :: y :: l,_=>rfl
theorem Hc (l:List Ty):I1 (Bl l)=Dg (Cy l):=
 U1 fun x hx=>⟨Jk ((Dj x _).1 hx),Jbi ((Dj x _).1 hx)⟩
theorem Ir {l:List Ty}{x:Ty}:x∈I1 (Bl l)↔x∈Cy l:=by rw[Hc,Dj]
theorem J6 {t:Ty}(h:t.k≠15):C6 t=[t]:=by
 obtain⟨k,s,n,ps,fs,vs⟩:=t;have h':¬ k=15:=h;rw[Cw,if_neg h']
theorem Hl:∀ {l:List Ty},(∀x∈l,x.k≠15)->Bk l=l
 | [],_=>rfl
 | a :: l,h=>by
  rw[Id,J6 (h a List.mem_cons_self),Hl fun x hx=>h x (List.mem_cons_of_mem _ hx)];rfl
theorem P3 {t:Ty}(h:t.k=15):C6 t=Bk t.ps:=by
 obtain⟨k,s,n,ps,fs,vs⟩:=t;have h':k=15:=h;rw[Cw,if_pos h'];rfl
theorem Ij (l:List Ty):∀x,x∈C6 (Bl l)↔x∈Cy l\/(Cy l=[]/\x=E7 1):=by
 have hs:=Hc l;intro x;unfold Bl at hs ⊢;have hm:∀y,y∈Dg (Cy l)↔y∈Cy l:=fun y=>Dj y _;generalize hg:Dg (Cy l)=s at hs hm;rcases s with _|⟨a,_|⟨b,s⟩⟩
 ·have h0:Cy l=[]:=by
   rcases hk:Cy l with _|⟨c,r⟩
   ·rfl
   ·have:=(hm c).2 (by rw[hk];simp);cases this
  have e:C6 (Hv [])=[E7 1]:=J6 (by decide);rw[e,h0];simp
 ·have ha:a∈Cy l:=(hm a).1 (by simp);have e:C6 (Hv [a])=[a]:=J6 (Jk ha);rw[e,<-hm x]
  constructor
  ·exact .inl
  ·rintro (h|⟨h,-⟩)
   ·exact h
   ·rw[h]at ha;cases ha
 ·have e:C6 (Hv (a :: b :: s))=Bk (a :: b :: s):=P3 rfl;rw[e,Hl fun y hy=>Jk ((hm y).1 hy),<-hm x]
  constructor
  ·exact .inl
  ·rintro (h|⟨h,-⟩)
   ·exact h
   ·have:=(hm a).1 (by simp);rw[h]at this;cases this
def K8 (t:Ty):Prop:=(t.k=2->En t=false)/\(t.k=7\/t.k=8\/t.k=9\/t.k=10->En t=false)
theorem F9 (h:D7) {t:Ty}(h3:t.k≠3) (h1:t.k≠1) (h2:t.k≠2) (ha:h.a=true\/h.u=true):Dn h t=En t:=by
 unfold Dn;rw[if_neg h1,if_neg h3,if_neg (fun e=>h2 e.1),if_pos ha]
theorem Eo (h:D7) {t:Ty}(h3:t.k≠3) (h1:t.k≠1) (h2:t.k≠2) (ha:h.a=false) (hu:h.u=false):Dn h t=(if t.k=9 then !h.n else if t.k=10 then !h.s else true):=by
 unfold Dn;rw[if_neg h1,if_neg h3,if_neg (fun e=>h2 e.1),if_neg (by rw[ha,hu];simp)]
theorem M8 (h:D7) {t:Ty}(h1:t.k=1):Dn h t=false:=by unfold Dn;rw[if_pos h1]
theorem Kq (h:D7) {t:Ty}(h1:t.k=3):Dn h t=true:=by unfold Dn;rw[if_neg (by omega),if_pos h1]
theorem Kp (h:D7) {t:Ty}(h1:t.k=2) (hi:En t=false):Dn h t = !h.a:=by
 unfold Dn;rw[if_neg (by omega),if_neg (by omega)]
 cases ha:h.a
 ·rw[if_pos ⟨h1,rfl⟩];rfl
 ·rw[if_neg (by simp),if_pos (.inl rfl),hi];rfl
theorem K9 (l:List Ty):(Cp l).a=Cv 3 l:=rfl
theorem Tl (l:List Ty):(Cp l).u=Cv 2 l:=rfl
theorem Jei (l:List Ty):(Cp l).n=Cv 7 l:=rfl
theorem Jb3 (l:List Ty):(Cp l).s=Cv 8 l:=rfl
theorem Jd4 {k:Int}{l l':List Ty}(h:∀x∈l,x∈l') (hk:Cv k l=true):Cv k l'=true:=by
 obtain⟨t,a,b⟩:=G9.1 hk;exact G9.2 ⟨t,h t a,b⟩
theorem Gf {k:Int}{l l':List Ty}(h:∀x∈l,x∈l') (hk:Cv k l'=false):Cv k l=false:=by
 cases e:Cv k l
 ·rfl
 ·rw[Jd4 h e]at hk;cases hk
theorem Tn (ls:List (List Ty)) (hP:∀l∈ls,∀x∈Bk l,K8 x):Bl (ls.map Bl)=Bl ls.flatten:=by
 have hF:∀x,x∈Bk ls.flatten↔∃l∈ls,x∈Bk l:=fun x=>by
  rw[Ei]
  constructor
  ·rintro⟨p,hp,hx⟩;obtain⟨l,hl,hp⟩:=List.mem_flatten.1 hp;exact⟨l,hl,Ei.2 ⟨p,hp,hx⟩⟩
  ·rintro⟨l,hl,hx⟩;obtain⟨p,hp,hx⟩:=Ei.1 hx;exact⟨p,List.mem_flatten.2 ⟨l,hl,hp⟩,hx⟩
 have hG:∀x,x∈Bk (ls.map Bl)↔∃l∈ls,x∈Cy l\/(Cy l=[]/\x=E7 1):=fun x=>by
  rw[Ei]
  constructor
  ·rintro⟨p,hp,hx⟩;obtain⟨l,hl,rfl⟩:=List.mem_map.1 hp;exact⟨l,hl,(Ij l x).1 hx⟩
  ·rintro⟨l,hl,hx⟩;exact⟨_,List.mem_map.2 ⟨l,hl,rfl⟩,(Ij l x).2 hx⟩
 have hB:∀x∈Bk ls.flatten,K8 x:=fun x hx=>by
  obtain⟨l,hl,hx⟩:=(hF x).1 hx;exact hP l hl x hx
 refine Ot fun x=>?_;rw[Db,Db];generalize Bk ls.flatten=F at hF hB ⊢;generalize Bk (ls.map Bl)=G at hG ⊢;have lF:∀l∈ls,∀x∈Bk l,x∈F:=fun l hl x hx=>(hF x).2 ⟨l,hl,hx⟩;have GF:∀ {k:Int},k≠1->Cv k G=true->Cv k F=true:=fun hk h=>by
  obtain⟨t,ht,e⟩:=G9.1 h;obtain⟨l,hl,hx|⟨_,rfl⟩⟩:=(hG t).1 ht
  ·exact G9.2 ⟨t,lF l hl t (Db.1 hx).1,e⟩
  ·exact absurd (show _=(1:Int) from e.symm) hk
 have ga:Cv 3 G=Cv 3 F:=by
  rw[Bool.eq_iff_iff];refine⟨GF (by decide),fun h=>?_⟩;obtain⟨t,ht,e⟩:=G9.1 h;obtain⟨l,hl,hx⟩:=(hF t).1 ht;exact G9.2 ⟨t,(hG t).2 ⟨l,hl,.inl (Db.2 ⟨hx,Kq _ e⟩)⟩,e⟩
 have gu:Cv 3 F=false->Cv 2 G=Cv 2 F:=fun h3=>by
  rw[Bool.eq_iff_iff];refine⟨GF (by decide),fun h=>?_⟩;obtain⟨t,ht,e⟩:=G9.1 h;obtain⟨l,hl,hx⟩:=(hF t).1 ht;refine G9.2 ⟨t,(hG t).2 ⟨l,hl,.inl (Db.2 ⟨hx,?_⟩)⟩,e⟩;rw[Kp _ e ((hB t ht).1 e),K9,Gf (lF l hl) h3];rfl
 have gn:∀ {k:Int},k=7\/k=8->Cv 3 F=false->Cv 2 F=false->Cv k G=Cv k F:=fun {k} hk h3 h2=>by
  rw[Bool.eq_iff_iff];refine⟨GF (by omega),fun h=>?_⟩;obtain⟨t,ht,e⟩:=G9.1 h;obtain⟨l,hl,hx⟩:=(hF t).1 ht;refine G9.2 ⟨t,(hG t).2 ⟨l,hl,.inl (Db.2 ⟨hx,?_⟩)⟩,e⟩;rw[Eo _ (by omega) (by omega) (by omega) (by rw[K9];exact Gf (lF l hl) h3) (by rw[Tl];exact Gf (lF l hl) h2),if_neg (by omega),if_neg (by omega)]
 have key:x∈F->x.k≠1->Dn (Cp G) x=Dn (Cp F) x:=fun hx h1=>by
  by_cases h3:x.k=3
  ·rw[Kq _ h3,Kq _ h3]
  by_cases h2:x.k=2
  ·rw[Kp _ h2 ((hB x hx).1 h2),Kp _ h2 ((hB x hx).1 h2),K9,K9,ga]
  cases ha:Cv 3 F
  ·have hu:=gu ha
   cases hC:Cv 2 F
   ·rw[hC]at hu;rw[Eo _ h3 h1 h2 (by rw[K9,ga,ha]) (by rw[Tl,hu]),Eo _ h3 h1 h2 (by rw[K9,ha]) (by rw[Tl,hC]),Jei,Jei,Jb3,Jb3,gn (.inl rfl) ha hC,gn (.inr rfl) ha hC]
   ·rw[hC]at hu;rw[F9 _ h3 h1 h2 (.inr (by rw[Tl,hu])),F9 _ h3 h1 h2 (.inr (by rw[Tl,hC]))]
  ·rw[F9 _ h3 h1 h2 (.inl (by rw[K9,ga,ha])),F9 _ h3 h1 h2 (.inl (by rw[K9,ha]))]
 constructor
 ·rintro⟨hx,hk⟩;have h1:x.k≠1:=fun e=>by rw[M8 _ e]at hk;cases hk
  obtain⟨l,hl,h|⟨_,rfl⟩⟩:=(hG x).1 hx
  ·have hI:=lF l hl x (Db.1 h).1;exact⟨hI,by rw[<-key hI h1];exact hk⟩
  ·exact absurd rfl h1
 ·rintro⟨hx,hk⟩;have h1:x.k≠1:=fun e=>by rw[M8 _ e]at hk;cases hk
  refine⟨?_,by rw[key hx h1];exact hk⟩;obtain⟨l,hl,hJ⟩:=(hF x).1 hx;refine (hG x).2 ⟨l,hl,.inl (Db.2 ⟨hJ,?_⟩)⟩;by_cases h3:x.k=3
  ·exact Kq _ h3
  by_cases h2:x.k=2
  ·rw[Kp _ h2 ((hB x hx).1 h2),K9]at hk ⊢;rw[Gf (lF l hl) (by simpa using hk)];rfl
  have hA:En x=true->(x.k≠9/\x.k≠10):=fun hi=>by
   have:=(hB x hx).2
   constructor <;> intro e <;> rw[this (by omega)]at hi <;> cases hi
  by_cases hE:(Cp F).a=true\/(Cp F).u=true
  ·rw[F9 _ h3 h1 h2 hE]at hk;by_cases hD:(Cp (Bk l)).a=true\/(Cp (Bk l)).u=true
   ·rw[F9 _ h3 h1 h2 hD];exact hk
   ·rw[Eo _ h3 h1 h2 (by simpa using fun e=>hD (.inl e)) (by simpa using fun e=>hD (.inr e)),if_neg (hA hk).1,if_neg (hA hk).2]
  ·have a0:Cv 3 F=false:=by simpa [K9] using fun e=>hE (.inl e)
   have u0:Cv 2 F=false:=by simpa [Tl] using fun e=>hE (.inr e)
   rw[Eo _ h3 h1 h2 a0 u0]at hk;rw[Eo _ h3 h1 h2 (Gf (lF l hl) a0) (Gf (lF l hl) u0)];by_cases h9:x.k=9
   ·rw[if_pos h9]at hk ⊢;rw[Jei]at hk ⊢;rw[Gf (lF l hl) (by simpa using hk)];rfl
   ·rw[if_neg h9]at hk ⊢;by_cases hH:x.k=10
    ·rw[if_pos hH]at hk ⊢;rw[Jb3]at hk ⊢;rw[Gf (lF l hl) (by simpa using hk)];rfl
    ·rw[if_neg hH]
theorem Zb (l:List Ty) (hP:∀x∈Bk l,K8 x):Bl [Bl l]=Bl l:=by
 have:=Tn [l] (fun m hm=>by rw[List.mem_singleton]at hm;subst hm;exact hP);simpa using this
theorem Tm (l:List Ty) (hP:∀x∈Bk l,K8 x):Bl (I1 (Bl l))=Bl l:=by
 refine Eq.trans (Ot fun x=>?_) (Zb l hP);have h1:∀y∈I1 (Bl l),y.k≠15:=fun y hy=>Jk (Ir.1 hy);have e:∀y,y∈Bk (I1 (Bl l))↔y∈Cy l:=fun y=>by rw[Hl h1,Ir]
 have e2:∀y,y∈Bk [Bl l]↔y∈Cy l\/(Cy l=[]/\y=E7 1):=fun y=>by
  rw[Ei];simp only[List.mem_singleton,exists_eq_left];exact Ij l y
 by_cases h0:Cy l=[]
 ·rw[Db,Db,e,e2,h0]
  constructor
  ·rintro⟨h,-⟩;cases h
  ·rintro⟨h|⟨-,rfl⟩,h2⟩
   ·cases h
   ·rw[M8 _ rfl]at h2;cases h2
 ·have e3:∀y,y∈Bk (I1 (Bl l))↔y∈Bk [Bl l]:=fun y=>by rw[e,e2];simp[h0]
  rw[Db,Db,Mk e3,e3 x]
theorem Hp (a b c:Int):F2 (F2 a b) c=F2 a (F2 b c):=by
 unfold F2;by_cases h:a=0 <;> simp[h]
def Gw (w w':World):Prop:=∃q os,w'=Go.Sort.grow (w.drewN q) os
theorem Gw.refl (w:World):Gw w w:=⟨0,#[],by rw[Go.Sort.grow_empty];rfl⟩
theorem Xm (w:World) (m n:Nat):(w.drewN m).drewN n=w.drewN (m+n):=by
 simp only[World.drewN,Nat.add_assoc]
theorem Gw.trans {a b c:World}(h:Gw a b) (h':Gw b c):Gw a c:=by
 obtain⟨q,os,rfl⟩:=h;obtain⟨q',os',rfl⟩:=h';refine⟨q+q',os++os',?_⟩;rw[<-Xm,<-Go.Sort.grow_grow];rfl
theorem Gw.drew {a b:World}(h:Gw a b):Gw a b.drew:=h.trans ⟨1,#[],by rw[Go.Sort.grow_empty];rfl⟩
theorem Gw.alloc {a b:World}(h:Gw a b) (o:Obj):Gw a (b.alloc o):=h.trans ⟨0,#[o],by rw[Go.Sort.alloc_eq_grow];rfl⟩
theorem Gw.below {a b:World}(h:Gw a b):Below a.heap.size a b:=by
 obtain⟨q,os,rfl⟩:=h;exact⟨rfl,rfl,rfl,by simp[Go.Sort.grow,World.drewN],fun k hk=>by
  show (a.heap++os)[k]?=a.heap[k]?;rw[Array.getElem?_append_left hk]⟩
theorem Zv (W:World) (x y z:Int):(W.alloc (.cells #[.int .i64 x,.int .i64 y,.int .i64 z] 3)).drew.cell? ⟨W.heap.size,0,none⟩=some (.int .i64 x)/\(W.alloc (.cells #[.int .i64 x,.int .i64 y,.int .i64 z] 3)).drew.cell? ⟨W.heap.size,1,none⟩=some (.int .i64 y)/\(W.alloc (.cells #[.int .i64 x,.int .i64 y,.int .i64 z] 3)).drew.cell? ⟨W.heap.size,2,none⟩=some (.int .i64 z):=
 ⟨World.cell?_alloc_at _ _ _ _ rfl,World.cell?_alloc_at _ _ _ _ rfl,World.cell?_alloc_at _ _ _ _ rfl⟩
theorem Jfm (W:World) (x y:Int):(W.alloc (.cells #[.int .i64 x,.int .i64 y] 3)).drew.cell? ⟨W.heap.size,0,none⟩=some (.int .i64 x)/\(W.alloc (.cells #[.int .i64 x,.int .i64 y] 3)).drew.cell? ⟨W.heap.size,1,none⟩=some (.int .i64 y):=
 ⟨World.cell?_alloc_at _ _ _ _ rfl,World.cell?_alloc_at _ _ _ _ rfl⟩
theorem E4 {n k:Nat}(h:n<k):k - (intOf (Value.int .i64 ((n:Int)+1))).toNat<k - (intOf (Value.int .i64 (n:Int))).toNat:=by
 simp only[intOf];omega
structure Ws (f:Nat) (R:World->Nat->Nat->Prop) (R':World->Nat->Nat->Prop) (c:Int):Prop where
 ok:∀(w:World) (b o b' o':Nat),R w b o->R' w b' o'->Calls Tryz.prog f #[.pointer (some ⟨b,o,none⟩),.pointer (some ⟨b',o',none⟩)] w fun e w'=>e=.returned (.int .i64 c)/\Gw w w'
theorem Ww {α:Type}(E:α->List D4) (hE:∀x y,Bs (E x) (E y) (Cb (E x) (E y))) (R R':α->World->Nat->Nat->Prop) (hR:∀x w w' b o,Below w.heap.size w w'->R x w b o->R x w' b o) (hR':∀x w w' b o,Below w.heap.size w w'->R' x w b o->R' x w' b o)
  (l l':List α) (hl:∀x∈l,∀y,Ws 104 (R x) (R' y) (Cb (E x) (E y))) (A A':Option Addr) (c c':Nat) (w:World) (b o b' o':Nat) (hA:0<l.length->A=some ⟨b,o,none⟩) (hA':0<l'.length->A'=some ⟨b',o',none⟩) (hL:l.length<=1000000000000000) (_hlen':l'.length<=1000000000000000)
  (hx:∀i (h:i<l.length),R l[i] w b (o+i*6)) (hx':∀i (h:i<l'.length),R' l'[i] w b' (o'+i*6)) :
  Calls Tryz.prog 145 #[.slice A l.length c,.slice A' l'.length c',.func (.func 104) #[] #[]] w fun e w'=>e=.returned (.int .i64 (Cb (Fx E l) (Fx E l')))/\Gw w w':=by
 by_cases hD:l.length=l'.length
 case neg=>
  rw[Jo E hD];have tc:(Dr l.length l'.length != 0)=true:=by
   rw[bne_iff_ne];exact fun h=>hD (by have:=I7 h;omega)
  have KC:=Hd (Fj (l.length:Int) (l'.length:Int));generalize Dr (l.length:Int) (l'.length:Int)=cz at tc KC;clear hD hx hx' hl hR hR' hA hA';go_enter Tryz.func145,Tryz.ntmps145;go_wp2_with fail;refine (KC.o _).mono ?_;rintro e w1 ⟨rfl,rfl⟩;go_wp2_with fail;go_ret
  exact⟨rfl,Gw.refl _⟩
 rw[Ht E hD];have HE:=Hd hE;have HR:=Hd hR;have HR':=Hd hR';have HO:=Hd hl;have HA:=Hd hA;have HA':=Hd hA';have HX:=Hd hx;have HX':=Hd hx';have hU:=Hd hL;have HQ:=Hd hD;have KC:=Hd (Fj (l.length:Int) (l'.length:Int));rw[show Dr (l.length:Int) (l'.length:Int)=0 from by rw[hD];exact I6 _]at KC;generalize hM:Dc E l l' 0=res;have hP:=Hd hM;clear hE hR hR' hl hA hA' hx hx' hM;obtain⟨m,hm⟩:∃m,m=l.length:=⟨_,rfl⟩;obtain⟨m',hm'⟩:∃m',m'=l'.length:=⟨_,rfl⟩;rw[<-hm,<-hm']at hD KC;rw[<-hm,<-hm'];rw[<-hm]at hL hU;have HM:=Hd (And.intro hm hm');subst hD;clear _hlen' hm hm';go_enter Tryz.func145,Tryz.ntmps145;go_wp2_with fail;refine (KC.o _).mono ?_;rintro e w1 ⟨rfl,rfl⟩;go_wp2_with fail
 go_loopw [20] (fun v wr=>∃n:Nat,n<=m/\v=.int .i64 n/\Gw w wr/\Dc E l l' n=res) (fun v _=>m - (intOf v).toNat)
 case atStart=>exact⟨0,by omega,rfl,Gw.refl _,hP.o⟩
 case round=>
  obtain⟨n,hn,rfl,hb,hF⟩:=hrel;have HB:=Hd hb;have hI:=Hd hF;clear hb hF;by_cases hG:n<m
  case neg=>
   obtain rfl:n=m:=by omega
   have tl:decide ((n:Int)<(n:Int))=false:=by simp
   have h0:res=0:=by rw[<-hI.o,HM.o.1];exact Hs E HQ.o
   have H0:=Hd h0;clear hG h0;go_wp2_with fail;go_ret
   exact⟨by rw[H0.o];rfl,HB.o⟩
  have tl:decide ((n:Int)<(m:Int))=true:=by simp;omega
  have hN:n<l.length:=by rw[<-HM.o.1];exact hG
  have hQ:n<l'.length:=by rw[<-HM.o.2];exact hG
  have hA:=HA.o (by omega);have hA':=HA'.o (by omega);subst hA hA';have HL:=Hd hG;have hB:=Gt E HE.o HQ.o hN hQ;rw[hI.o]at hB;have K7:=Hd ((HO.o l[n] (List.getElem_mem hN) l'[n]).ok wr.drew b (o+n*6) b' (o'+n*6) (HR.o _ _ _ _ _ HB.o.drew.below (HX.o n hN)) (HR'.o _ _ _ _ _ HB.o.drew.below (HX'.o n hQ)));generalize Cb (E l[n]) (E l'[n])=c7 at hB K7;have hH:Z9 (c7=0->Dc E l l' (n+1)=res):=Hd fun h=>by rw[hB,h,Bo]
  have hJ:Z9 (c7≠0->res=c7):=Hd fun h=>by rw[hB,Dv h]
  have hV:n<m:=hG;clear hB hG hN hQ;go_wp2_with fail;go_wp2_with fail;refine wp_region_held_drew (S:=(fun _=>True)) (by kernel_rfl) trivial (fun hC=>?_);refine Ab.s [0,1,2,3,4,5,6] ?_
  iterate 7 (refine Ab.k (so rfl) hC ?_;try simp only[Act.put,Az,Ba,Bb])
  refine Ab.d ?_;refine wpAnyH_ready (rs:=[7]) (by kernel_rfl) (by simp) ?_;refine AllReadyH.cons (sd (some 30) rfl) (fun K hK=>?_) AllReadyH.nil;go_simp;refine K7.o.mono ?_;rintro e w7 ⟨rfl,hT⟩;have hS:=Hd hT;clear hT;go_wp2_with fail;refine hK.out _ _ (trivial) (fun hC=>?_);clear hK K;try simp only[Act.put,Az,Ba,Bb]
  refine Ab.s [8] ?_;refine Ab.k (so rfl) hC ?_;try simp only[Act.put,Az,Ba,Bb]
  refine Ab.d ?_;refine wpAnyH_done (by kernel_rfl) ?_ _;clear hC;by_cases hc:c7=0
  ·have tc:(c7 != 0)=false:=by simpa using hc
   have hO:=Hd (hH.o hc);clear hc;go_wp2_with fail;refine⟨⟨n+1,HL.o,by go_num,HB.o.drew.trans hS.o,hO.o⟩,?meas⟩
   case meas=>exact E4 HL.o
  ·have tc:(c7 != 0)=true:=by simpa using hc
   have hO:=Hd (hJ.o hc);clear hc;go_wp2_with fail;go_ret
   exact⟨by rw[<-hO.o];rfl,HB.o.drew.trans hS.o⟩
def P9:Nat->Z8->Z8
 | 0,s=>s
 | n+1,s=>if 0<s.size/\De s (s.size - 1)=39 then P9 n (s.extract 0 (s.size - 1)) else s
def Fa (s:Z8):Z8:=P9 s.size s
def Ca (s:Z8):Bool:=M5 (Fa s)
theorem Wo {s:Z8}{m:Nat}(h:s.size=m+1) (hb:De s m=39):Fa s=Fa (s.extract 0 m):=by
 have h2:(s.extract 0 m).size=m:=by rw[ByteArray.size_extract];omega
 unfold Fa;rw[h2,h,P9,if_pos ⟨by omega,by rw[h];exact hb⟩,h];rfl
theorem L1 {s:Z8}{m:Nat}(h:s.size=m+1) (hb:De s m≠39):Fa s=s:=by
 unfold Fa;rw[h,P9,if_neg (fun hx=>hb (by have:=hx.2;rw[h]at this;exact this))]
theorem Hy {s:Z8}(h:s.size=0):Fa s=s:=by
 unfold Fa;rw[h];rfl
theorem Eu {n:Int}(h:0<=n) (h2:n<=1000000000000000000):wrap64 n=n:=by
 have e:IntKind.i64.wrap n=wrap64 n:=by unfold wrap64;exact IntKind.wrap_i64 n
 rw[<-e];simp[IntKind.wrap,IntKind.bits,IntKind.signed];omega
theorem Oq:∀n s,(P9 n s).size<=s.size
 | 0,_=>Nat.le_refl _
 | n+1,s=>by
  rw[P9]
  split
  ·refine Nat.le_trans (Oq n _) ?_;rw[ByteArray.size_extract];omega
  ·exact Nat.le_refl _
theorem Va (s:Z8):(Fa s).size<=s.size:=Oq _ _
theorem Ol (t:Z8) {m:Nat}(h:t.size=m+1):(t.extract 0 m).size=m:=by rw[ByteArray.size_extract];omega
theorem Vb (s:Z8) (w:World) (hs:s.size<=1000000000000000) :
  Calls Tryz.prog 108 #[.string s,.int .u8 39] w fun e w'=>e=.returned (.string (Fa s))/\w'=w:=by
 go_enter Tryz.func108,Tryz.ntmps108;go_wp2_with fail
 go_loopw [0] (fun v wr=>∃t:Z8,v=.string t/\t.size<=s.size/\Fa t=Fa s/\wr=w) (fun v _=>match v with|.string t=>t.size|_=>0)
 case atStart=>exact⟨s,rfl,Nat.le_refl _,rfl,rfl⟩
 case round=>
  obtain⟨t,rfl,ht,hq,rfl⟩:=hrel;have HQ:=Hd hq;clear hq
  cases hm:t.size with
  | zero=>
   have HF:=Hd (Hy hm);go_wp2_with fail;go_ret
   exact⟨by rw[<-HQ.o,HF.o];rfl,rfl⟩
  | succ m=>
   have hb:=Gx t m (by omega);have HM:=Hd hm;have i0:(0:Int)<=(m:Int):=by omega
   have i1:(m:Int)<(m:Int)+1:=by omega
   have hD:wrap64 (((m+1:Nat):Int) - 1)=(m:Int):=by rw[Eu (by omega) (by omega)];omega
   have hC:wrap64 (m:Int)=(m:Int):=Eu (by omega) (by omega);have hB:=Hd (Ol t hm);by_cases hA:De t m=39
   ·have HG:=Hd (Wo hm hA);have te:((De t m:Int) == 39)=true:=(by simp;omega);have HT:=Hd ht;clear hA ht;generalize De t m=bb at hb te;go_wp2_with fail;refine⟨⟨t.extract 0 m,by first|rfl|(rw[hC];rfl),by rw[hB.o];have:=HT.o;have:=HM.o;omega,by rw[<-HG.o,HQ.o],by first|rfl|trivial⟩,?_⟩;try rw[hC]
    show (t.extract 0 m).size<t.size;rw[hB.o,HM.o];omega
   ·have HF:=Hd (L1 hm hA);have te:((De t m:Int) == 39)=false:=(by simp;omega);have te2:(De t m == 39)=false:=(by simpa using hA);clear ht;generalize De t m=bb at hb te te2 hA;go_wp2_with fail;go_ret
    exact⟨by rw[<-HQ.o,HF.o];rfl,rfl⟩
theorem Y8 (s:Z8) (w:World) (hs:s.size<=1000000000000000) :
  Calls Tryz.prog 80 #[.string s,.string ⟨#[39]⟩] w fun e w'=>e=.returned (.string (Fa s))/\w'=w:=by
 cases hl:s.toList with
 | nil=>
  have HF:=Hd (Hy (Oi hl));have HQ:=Hd hl;go_enter Tryz.func80,Tryz.ntmps80;go_wp2_with fail;go_ret
  exact⟨by rw[HF.o];rfl,rfl⟩
 | cons a l=>
  have KT:=Hd (Vb s w hs);go_enter Tryz.func80,Tryz.ntmps80;go_wp2_with fail;refine KT.o.mono ?_;rintro e w1 ⟨rfl,rfl⟩;go_wp2_with fail;go_ret
  exact⟨rfl,rfl⟩
theorem Ex (s:Z8) (w:World) (hs:s.size<=1000000000000000) :
  Calls Tryz.prog 41 #[.string s] w fun e w'=>e=.returned (.bool (Ca s))/\Below w.heap.size w w':=by
 have KT:=Hd (Y8 s w hs);have KI:=Hd (Mj (Fa s) w (Nat.le_trans (Va s) hs));unfold Ca;generalize M5 (Fa s)=r at KI ⊢;generalize Fa s=q at KT KI;go_enter Tryz.func41,Tryz.ntmps41;go_wp2_with fail;refine KT.o.mono ?_;rintro e w1 ⟨rfl,rfl⟩;go_wp2_with fail;refine KI.o.mono ?_;rintro e w2 ⟨rfl,hb⟩;have HB:=Hd hb;clear hb;go_wp2_with fail;go_ret
 exact⟨rfl,HB.o⟩
theorem Ks (s:Z8) (w:World) (hs:s.size<=1000000000000000) :
  Calls Tryz.prog 16 #[.string s] w fun e w'=>e=.returned (.bool (Ca s))/\Below w.heap.size w w':=by
 have KI:Z9 (∀t:Z8,t.size<=s.size->Fa t=t->Fa t=Fa s->Calls Tryz.prog 39 #[.string t] w fun e w'=>e=.returned (.bool (Ca s))/\Below w.heap.size w w'):=Hd fun t ht h1 h2=>by
  unfold Ca;rw[<-h2,h1];exact Up t w (Nat.le_trans ht hs)
 generalize Ca s=r at KI ⊢;go_enter Tryz.func16,Tryz.ntmps16;go_wp2_with fail
 go_loopw [0] (fun v wr=>∃t:Z8,v=.string t/\t.size<=s.size/\Fa t=Fa s/\wr=w) (fun v _=>match v with|.string t=>t.size|_=>0)
 case atStart=>exact⟨s,rfl,Nat.le_refl _,rfl,rfl⟩
 case round=>
  obtain⟨t,rfl,ht,hq,rfl⟩:=hrel;have HQ:=Hd hq;clear hq
  cases hm:t.size with
  | zero=>
   have KT:=Hd (KI.o t ht (Hy hm) HQ.o);clear ht;go_wp2_with fail;refine KT.o.mono ?_;rintro e w2 ⟨rfl,hb⟩;have HB:=Hd hb;clear hb;go_wp2_with fail;go_ret
   exact⟨rfl,HB.o⟩
  | succ m=>
   have hb:=Gx t m (by omega);have HM:=Hd hm;have i0:(0:Int)<=(m:Int):=by omega
   have i1:(m:Int)<(m:Int)+1:=by omega
   have hD:wrap64 (((m+1:Nat):Int) - 1)=(m:Int):=by rw[Eu (by omega) (by omega)];omega
   have hC:wrap64 (m:Int)=(m:Int):=Eu (by omega) (by omega);have hB:=Hd (Ol t hm);by_cases hA:De t m=39
   ·have HG:=Hd (Wo hm hA);have te:((De t m:Int) == 39)=true:=(by simp;omega);have HT:=Hd ht;clear hA ht;generalize De t m=bb at hb te;go_wp2_with fail;refine⟨⟨t.extract 0 m,by first|rfl|(rw[hC];rfl),by rw[hB.o];have:=HT.o;have:=HM.o;omega,by rw[<-HG.o,HQ.o],by first|rfl|trivial⟩,?_⟩;try rw[hC]
    show (t.extract 0 m).size<t.size;rw[hB.o,HM.o];omega
   ·have KT:=Hd (KI.o t ht (L1 hm hA) HQ.o);have te:((De t m:Int) == 39)=false:=(by simp;omega);have te2:(De t m == 39)=false:=(by simpa using hA);clear ht;generalize De t m=bb at hb te te2 hA;go_wp2_with fail;refine KT.o.mono ?_;rintro e w2 ⟨rfl,hb⟩;have HB:=Hd hb;clear hb;go_wp2_with fail;go_ret
    exact⟨rfl,HB.o⟩
theorem Tr {α:Type}(E:α->List D4) (hE:∀x y,Bs (E x) (E y) (Cb (E x) (E y))) (R R':α->World->Nat->Nat->Prop) (hR:∀x w w' b o,Below w.heap.size w w'->R x w b o->R x w' b o) (hR':∀x w w' b o,Below w.heap.size w w'->R' x w b o->R' x w' b o)
  (l l':List α) (hl:∀x∈l,∀y,Ws 147 (R x) (R' y) (Cb (E x) (E y))) (A A':Option Addr) (c c':Nat) (w:World) (b o b' o':Nat) (hA:0<l.length->A=some ⟨b,o,none⟩) (hA':0<l'.length->A'=some ⟨b',o',none⟩) (hL:l.length<=1000000000000000) (_hlen':l'.length<=1000000000000000)
  (hx:∀i (h:i<l.length),R l[i] w b (o+i*8)) (hx':∀i (h:i<l'.length),R' l'[i] w b' (o'+i*8)) :
  Calls Tryz.prog 146 #[.slice A l.length c,.slice A' l'.length c',.func (.func 147) #[] #[]] w fun e w'=>e=.returned (.int .i64 (Cb (Fx E l) (Fx E l')))/\Gw w w':=by
 by_cases hD:l.length=l'.length
 case neg=>
  rw[Jo E hD];have tc:(Dr l.length l'.length != 0)=true:=by
   rw[bne_iff_ne];exact fun h=>hD (by have:=I7 h;omega)
  have KC:=Hd (Fj (l.length:Int) (l'.length:Int));generalize Dr (l.length:Int) (l'.length:Int)=cz at tc KC;clear hD hx hx' hl hR hR' hA hA';go_enter Tryz.func146,Tryz.ntmps146;go_wp2_with fail;refine (KC.o _).mono ?_;rintro e w1 ⟨rfl,rfl⟩;go_wp2_with fail;go_ret
  exact⟨rfl,Gw.refl _⟩
 rw[Ht E hD];have HE:=Hd hE;have HR:=Hd hR;have HR':=Hd hR';have HO:=Hd hl;have HA:=Hd hA;have HA':=Hd hA';have HX:=Hd hx;have HX':=Hd hx';have hU:=Hd hL;have HQ:=Hd hD;have KC:=Hd (Fj (l.length:Int) (l'.length:Int));rw[show Dr (l.length:Int) (l'.length:Int)=0 from by rw[hD];exact I6 _]at KC;generalize hM:Dc E l l' 0=res;have hP:=Hd hM;clear hE hR hR' hl hA hA' hx hx' hM;obtain⟨m,hm⟩:∃m,m=l.length:=⟨_,rfl⟩;obtain⟨m',hm'⟩:∃m',m'=l'.length:=⟨_,rfl⟩;rw[<-hm,<-hm']at hD KC;rw[<-hm,<-hm'];rw[<-hm]at hL hU;have HM:=Hd (And.intro hm hm');subst hD;clear _hlen' hm hm';go_enter Tryz.func146,Tryz.ntmps146;go_wp2_with fail;refine (KC.o _).mono ?_;rintro e w1 ⟨rfl,rfl⟩;go_wp2_with fail
 go_loopw [20] (fun v wr=>∃n:Nat,n<=m/\v=.int .i64 n/\Gw w wr/\Dc E l l' n=res) (fun v _=>m - (intOf v).toNat)
 case atStart=>exact⟨0,by omega,rfl,Gw.refl _,hP.o⟩
 case round=>
  obtain⟨n,hn,rfl,hb,hF⟩:=hrel;have HB:=Hd hb;have hI:=Hd hF;clear hb hF;by_cases hG:n<m
  case neg=>
   obtain rfl:n=m:=by omega
   have tl:decide ((n:Int)<(n:Int))=false:=by simp
   have h0:res=0:=by rw[<-hI.o,HM.o.1];exact Hs E HQ.o
   have H0:=Hd h0;clear hG h0;go_wp2_with fail;go_ret
   exact⟨by rw[H0.o];rfl,HB.o⟩
  have tl:decide ((n:Int)<(m:Int))=true:=by simp;omega
  have hN:n<l.length:=by rw[<-HM.o.1];exact hG
  have hQ:n<l'.length:=by rw[<-HM.o.2];exact hG
  have hA:=HA.o (by omega);have hA':=HA'.o (by omega);subst hA hA';have HL:=Hd hG;have hB:=Gt E HE.o HQ.o hN hQ;rw[hI.o]at hB;have K7:=Hd ((HO.o l[n] (List.getElem_mem hN) l'[n]).ok wr.drew b (o+n*8) b' (o'+n*8) (HR.o _ _ _ _ _ HB.o.drew.below (HX.o n hN)) (HR'.o _ _ _ _ _ HB.o.drew.below (HX'.o n hQ)));generalize Cb (E l[n]) (E l'[n])=c7 at hB K7;have hH:Z9 (c7=0->Dc E l l' (n+1)=res):=Hd fun h=>by rw[hB,h,Bo]
  have hJ:Z9 (c7≠0->res=c7):=Hd fun h=>by rw[hB,Dv h]
  have hV:n<m:=hG;clear hB hG hN hQ;go_wp2_with fail;go_wp2_with fail;refine wp_region_held_drew (S:=(fun _=>True)) (by kernel_rfl) trivial (fun hC=>?_);refine Ab.s [0,1,2,3,4,5,6] ?_
  iterate 7 (refine Ab.k (so rfl) hC ?_;try simp only[Act.put,Az,Ba,Bb])
  refine Ab.d ?_;refine wpAnyH_ready (rs:=[7]) (by kernel_rfl) (by simp) ?_;refine AllReadyH.cons (sd (some 30) rfl) (fun K hK=>?_) AllReadyH.nil;go_simp;refine K7.o.mono ?_;rintro e w7 ⟨rfl,hT⟩;have hS:=Hd hT;clear hT;go_wp2_with fail;refine hK.out _ _ (trivial) (fun hC=>?_);clear hK K;try simp only[Act.put,Az,Ba,Bb]
  refine Ab.s [8] ?_;refine Ab.k (so rfl) hC ?_;try simp only[Act.put,Az,Ba,Bb]
  refine Ab.d ?_;refine wpAnyH_done (by kernel_rfl) ?_ _;clear hC;by_cases hc:c7=0
  ·have tc:(c7 != 0)=false:=by simpa using hc
   have hO:=Hd (hH.o hc);clear hc;go_wp2_with fail;refine⟨⟨n+1,HL.o,by go_num,HB.o.drew.trans hS.o,hO.o⟩,?meas⟩
   case meas=>exact E4 HL.o
  ·have tc:(c7 != 0)=true:=by simpa using hc
   have hO:=Hd (hJ.o hc);clear hc;go_wp2_with fail;go_ret
   exact⟨by rw[<-hO.o];rfl,HB.o.drew.trans hS.o⟩
theorem Zm {α:Type}(E:α->List D4) (hE:∀x y,Bs (E x) (E y) (Cb (E x) (E y))) (R R':α->World->Nat->Nat->Prop) (hR:∀x w w' b o,Below w.heap.size w w'->R x w b o->R x w' b o) (hR':∀x w w' b o,Below w.heap.size w w'->R' x w b o->R' x w' b o)
  (l l':List α) (hl:∀x∈l,∀y,Ws 149 (R x) (R' y) (Cb (E x) (E y))) (A A':Option Addr) (c c':Nat) (w:World) (b o b' o':Nat) (hA:0<l.length->A=some ⟨b,o,none⟩) (hA':0<l'.length->A'=some ⟨b',o',none⟩) (hL:l.length<=1000000000000000) (_hlen':l'.length<=1000000000000000)
  (hx:∀i (h:i<l.length),R l[i] w b (o+i*2)) (hx':∀i (h:i<l'.length),R' l'[i] w b' (o'+i*2)) :
  Calls Tryz.prog 148 #[.slice A l.length c,.slice A' l'.length c',.func (.func 149) #[] #[]] w fun e w'=>e=.returned (.int .i64 (Cb (Fx E l) (Fx E l')))/\Gw w w':=by
 by_cases hD:l.length=l'.length
 case neg=>
  rw[Jo E hD];have tc:(Dr l.length l'.length != 0)=true:=by
   rw[bne_iff_ne];exact fun h=>hD (by have:=I7 h;omega)
  have KC:=Hd (Fj (l.length:Int) (l'.length:Int));generalize Dr (l.length:Int) (l'.length:Int)=cz at tc KC;clear hD hx hx' hl hR hR' hA hA';go_enter Tryz.func148,Tryz.ntmps148;go_wp2_with fail;refine (KC.o _).mono ?_;rintro e w1 ⟨rfl,rfl⟩;go_wp2_with fail;go_ret
  exact⟨rfl,Gw.refl _⟩
 rw[Ht E hD];have HE:=Hd hE;have HR:=Hd hR;have HR':=Hd hR';have HO:=Hd hl;have HA:=Hd hA;have HA':=Hd hA';have HX:=Hd hx;have HX':=Hd hx';have hU:=Hd hL;have HQ:=Hd hD;have KC:=Hd (Fj (l.length:Int) (l'.length:Int));rw[show Dr (l.length:Int) (l'.length:Int)=0 from by rw[hD];exact I6 _]at KC;generalize hM:Dc E l l' 0=res;have hP:=Hd hM;clear hE hR hR' hl hA hA' hx hx' hM;obtain⟨m,hm⟩:∃m,m=l.length:=⟨_,rfl⟩;obtain⟨m',hm'⟩:∃m',m'=l'.length:=⟨_,rfl⟩;rw[<-hm,<-hm']at hD KC;rw[<-hm,<-hm'];rw[<-hm]at hL hU;have HM:=Hd (And.intro hm hm');subst hD;clear _hlen' hm hm';go_enter Tryz.func148,Tryz.ntmps148;go_wp2_with fail;refine (KC.o _).mono ?_;rintro e w1 ⟨rfl,rfl⟩;go_wp2_with fail
 go_loopw [20] (fun v wr=>∃n:Nat,n<=m/\v=.int .i64 n/\Gw w wr/\Dc E l l' n=res) (fun v _=>m - (intOf v).toNat)
 case atStart=>exact⟨0,by omega,rfl,Gw.refl _,hP.o⟩
 case round=>
  obtain⟨n,hn,rfl,hb,hF⟩:=hrel;have HB:=Hd hb;have hI:=Hd hF;clear hb hF;by_cases hG:n<m
  case neg=>
   obtain rfl:n=m:=by omega
   have tl:decide ((n:Int)<(n:Int))=false:=by simp
   have h0:res=0:=by rw[<-hI.o,HM.o.1];exact Hs E HQ.o
   have H0:=Hd h0;clear hG h0;go_wp2_with fail;go_ret
   exact⟨by rw[H0.o];rfl,HB.o⟩
  have tl:decide ((n:Int)<(m:Int))=true:=by simp;omega
  have hN:n<l.length:=by rw[<-HM.o.1];exact hG
  have hQ:n<l'.length:=by rw[<-HM.o.2];exact hG
  have hA:=HA.o (by omega);have hA':=HA'.o (by omega);subst hA hA';have HL:=Hd hG;have hB:=Gt E HE.o HQ.o hN hQ;rw[hI.o]at hB;have K7:=Hd ((HO.o l[n] (List.getElem_mem hN) l'[n]).ok wr.drew b (o+n*2) b' (o'+n*2) (HR.o _ _ _ _ _ HB.o.drew.below (HX.o n hN)) (HR'.o _ _ _ _ _ HB.o.drew.below (HX'.o n hQ)));generalize Cb (E l[n]) (E l'[n])=c7 at hB K7;have hH:Z9 (c7=0->Dc E l l' (n+1)=res):=Hd fun h=>by rw[hB,h,Bo]
  have hJ:Z9 (c7≠0->res=c7):=Hd fun h=>by rw[hB,Dv h]
  have hV:n<m:=hG;clear hB hG hN hQ;go_wp2_with fail;go_wp2_with fail;refine wp_region_held_drew (S:=(fun _=>True)) (by kernel_rfl) trivial (fun hC=>?_);refine Ab.s [0,1,2,3,4,5,6] ?_
  iterate 7 (refine Ab.k (so rfl) hC ?_;try simp only[Act.put,Az,Ba,Bb])
  refine Ab.d ?_;refine wpAnyH_ready (rs:=[7]) (by kernel_rfl) (by simp) ?_;refine AllReadyH.cons (sd (some 30) rfl) (fun K hK=>?_) AllReadyH.nil;go_simp;refine K7.o.mono ?_;rintro e w7 ⟨rfl,hT⟩;have hS:=Hd hT;clear hT;go_wp2_with fail;refine hK.out _ _ (trivial) (fun hC=>?_);clear hK K;try simp only[Act.put,Az,Ba,Bb]
  refine Ab.s [8] ?_;refine Ab.k (so rfl) hC ?_;try simp only[Act.put,Az,Ba,Bb]
  refine Ab.d ?_;refine wpAnyH_done (by kernel_rfl) ?_ _;clear hC;by_cases hc:c7=0
  ·have tc:(c7 != 0)=false:=by simpa using hc
   have hO:=Hd (hH.o hc);clear hc;go_wp2_with fail;refine⟨⟨n+1,HL.o,by go_num,HB.o.drew.trans hS.o,hO.o⟩,?meas⟩
   case meas=>exact E4 HL.o
  ·have tc:(c7 != 0)=true:=by simpa using hc
   have hO:=Hd (hJ.o hc);clear hc;go_wp2_with fail;go_ret
   exact⟨by rw[<-hO.o];rfl,HB.o.drew.trans hS.o⟩
def Il:Go.Shelf.Ren:=⟨fun|6=>100 | 15=>140 | 14=>139 | 28=>177 | 29=>178 | 20=>169 | 21=>170 | 22=>171 | 23=>172 | 24=>173 | 25=>174 | 26=>175 | 27=>176 | 46=>200 | 47=>201 | 48=>202 | 49=>203 | 50=>204 | 57=>215 | n=>n,fun|22=>22 | 24=>26 | 25=>49 | 3=>3 | 39=>171 | 0=>0 | 53=>218 | 55=>220 | 4=>4 | 46=>211 | 45=>210 | 50=>215 | 5=>5 | 9=>9 | 66=>235 | 70=>127 | 76=>246 | 77=>247 | n=>n,fun n=>n⟩
theorem Jcn:Go.Proofs.SlLaysF0.n6 Tryz.prog Il:={
 mixed:=by kernel_rfl
 f6:=⟨ "slices.SortFunc[[]plinth/api.Type,plinth/api.Type]",by decide,Tryz.func100.trans (congrArg some (by kernel_rfl))⟩
 f14:=⟨ "slices.pdqsortCmpFunc[plinth/api.Type]",by decide,Tryz.func139.trans (congrArg some (by kernel_rfl))⟩
 f15:=Tryz.func140.trans (congrArg some (by kernel_rfl))
 f20:=⟨ "slices.insertionSortCmpFunc[plinth/api.Type]",by decide,Tryz.func169.trans (congrArg some (by kernel_rfl))⟩
 f21:=⟨ "slices.heapSortCmpFunc[plinth/api.Type]",by decide,Tryz.func170.trans (congrArg some (by kernel_rfl))⟩
 f22:=⟨ "slices.breakPatternsCmpFunc[plinth/api.Type]",by decide,Tryz.func171.trans (congrArg some (by kernel_rfl))⟩
 f23:=⟨ "slices.choosePivotCmpFunc[plinth/api.Type]",by decide,Tryz.func172.trans (congrArg some (by kernel_rfl))⟩
 f24:=⟨ "slices.reverseRangeCmpFunc[plinth/api.Type]",by decide,Tryz.func173.trans (congrArg some (by kernel_rfl))⟩
 f25:=⟨ "slices.partialInsertionSortCmpFunc[plinth/api.Type]",by decide,Tryz.func174.trans (congrArg some (by kernel_rfl))⟩
 f26:=⟨ "slices.partitionEqualCmpFunc[plinth/api.Type]",by decide,Tryz.func175.trans (congrArg some (by kernel_rfl))⟩
 f27:=⟨ "slices.partitionCmpFunc[plinth/api.Type]",by decide,Tryz.func176.trans (congrArg some (by kernel_rfl))⟩
 f28:=Tryz.func177.trans (congrArg some (by kernel_rfl))
 f29:=Tryz.func178.trans (congrArg some (by kernel_rfl))
 f46:=⟨ "slices.siftDownCmpFunc[plinth/api.Type]",by decide,Tryz.func200.trans (congrArg some (by kernel_rfl))⟩
 f47:=Tryz.func201.trans (congrArg some (by kernel_rfl))
 f48:=Tryz.func202.trans (congrArg some (by kernel_rfl))
 f49:=⟨ "slices.medianAdjacentCmpFunc[plinth/api.Type]",by decide,Tryz.func203.trans (congrArg some (by kernel_rfl))⟩
 f50:=⟨ "slices.medianCmpFunc[plinth/api.Type]",by decide,Tryz.func204.trans (congrArg some (by kernel_rfl))⟩
 f57:=⟨ "slices.order2CmpFunc[plinth/api.Type]",by decide,Tryz.func215.trans (congrArg some (by kernel_rfl))⟩
 t0:=Tryz.underlying0
 a0:=Tryz.isAgg0
 z0:=Tryz.sizeOf0
 v0:=Tryz.zeroValue0
 t3:=Tryz.underlying3
 a3:=Tryz.isAgg3
 z3:=Tryz.sizeOf3
 v3:=Tryz.zeroValue3
 t4:=Tryz.underlying4
 a4:=Tryz.isAgg4
 z4:=Tryz.sizeOf4
 v4:=Tryz.zeroValue4
 t5:=Tryz.underlying5
 a5:=Tryz.isAgg5
 z5:=Tryz.sizeOf5
 v5:=Tryz.zeroValue5
 t9:=Tryz.underlying9
 a9:=Tryz.isAgg9
 z9:=Tryz.sizeOf9
 v9:=Tryz.zeroValue9
 t22:=Tryz.underlying22
 a22:=Tryz.isAgg22
 z22:=Tryz.sizeOf22
 v22:=Tryz.zeroValue22
 t25:=Tryz.underlying49
 a25:=Tryz.isAgg49
 z25:=Tryz.sizeOf49
 v25:=Tryz.zeroValue49
 t39:=Tryz.underlying171
 a39:=Tryz.isAgg171
 z39:=Tryz.sizeOf171
 v39:=Tryz.zeroValue171
 t45:=Tryz.underlying210
 a45:=Tryz.isAgg210
 z45:=Tryz.sizeOf210
 v45:=Tryz.zeroValue210
 t46:=Tryz.underlying211
 a46:=Tryz.isAgg211
 z46:=Tryz.sizeOf211
 v46:=Tryz.zeroValue211
 t50:=Tryz.underlying215
 a50:=Tryz.isAgg215
 z50:=Tryz.sizeOf215
 v50:=Tryz.zeroValue215
 t53:=Tryz.underlying218
 a53:=Tryz.isAgg218
 z53:=Tryz.sizeOf218
 v53:=Tryz.zeroValue218
 t55:=Tryz.underlying220
 a55:=Tryz.isAgg220
 z55:=Tryz.sizeOf220
 v55:=Tryz.zeroValue220
 t66:=Tryz.underlying235
 a66:=Tryz.isAgg235
 z66:=Tryz.sizeOf235
 v66:=Tryz.zeroValue235
 t70:=Tryz.underlying127
 a70:=Tryz.isAgg127
 z70:=Tryz.sizeOf127
 v70:=Tryz.zeroValue127
 t76:=Tryz.underlying246
 a76:=Tryz.isAgg246
 z76:=Tryz.sizeOf246
 v76:=Tryz.zeroValue246
 t77:=Tryz.underlying247
 a77:=Tryz.isAgg247
 z77:=Tryz.sizeOf247
 v77:=Tryz.zeroValue247
}
