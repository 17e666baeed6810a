import Derived.Test.YtlpfpehegddcfaaGreatDoorMv2
namespace Go.Proofs.YtlpfpehegddcfaaGreatDoor
set_option maxRecDepth 100000
set_option maxHeartbeats 64000000
open Go.RowKit
theorem Dw {l:List Ty} {x:Ty}:x∈Bb l↔∃ p∈l,x∈Cq p:=by
 unfold Bb;rw[List.mem_flatten]
 constructor
 ·rintro⟨m,hm,hx⟩;obtain⟨p,hp,rfl⟩:=List.mem_map.1 hm;exact⟨p,hp,hx⟩
 ·rintro⟨p,hp,hx⟩;exact⟨_,List.mem_map.2 ⟨p,hp,rfl⟩,hx⟩
theorem By {l:List Ty} {x:Ty}:x∈Cd l↔x∈Bb l/\Cx (Bs (Bb l)) x=true:=List.mem_filter
theorem Gt {k:Int} {l:List Ty}:Ce k l=true↔∃ t∈l,t.k=k:=by
 unfold Ce;rw[List.any_eq_true];simp
theorem Hg {k:Int} {l l':List Ty} (h:∀ x,x∈l↔x∈l'):Ce k l=Ce k l':=by
 rw[Bool.eq_iff_iff,Gt,Gt]
 constructor
 ·rintro⟨t,a,b⟩;exact⟨t,(h t).1 a,b⟩
 ·rintro⟨t,a,b⟩;exact⟨t,(h t).2 a,b⟩
theorem Kv {l l':List Ty} (h:∀ x,x∈l↔x∈l'):Bs l=Bs l':=by
 unfold Bs;rw[Hg h,Hg h,Hg h,Hg h]
theorem Tj {l l':List Ty} (h:∀ x,x∈l↔x∈l'):C0 l=C0 l':=
 F8 (F3 _) (F3 _) fun x=>by rw[Cj,Cj];exact h x
theorem Nh {l l':List Ty} (h:∀ x,x∈Cd l↔x∈Cd l'):Bi l=Bi l':=by
 unfold Bi;rw[Tj h]
theorem Lb {l l':List Ty} (h:∀ x,x∈Bb l↔x∈Bb l'):Bi l=Bi l':=
 Nh fun x=>by rw[By,By,Kv h,h x]
theorem Tp {l l':List Ty} (h:∀ x,x∈l↔x∈l'):Bi l=Bi l':=
 Lb fun x=>by
  rw[Dw,Dw]
  constructor
  ·rintro⟨p,a,b⟩;exact⟨p,(h p).1 a,b⟩
  ·rintro⟨p,a,b⟩;exact⟨p,(h p).2 a,b⟩
theorem Pr (t:Ty):∀ x∈Cq t,x.k≠15:=by
 refine Ty.ind (C:=fun t=>∀ x∈Cq t,x.k≠15) (fun k t n ps fs vs hp _ _ x hx=>?_) t;rw[Ck] at hx;by_cases h:k=15
 ·rw[if_pos h,Dw] at hx;obtain⟨p,hm,hx⟩:=hx;exact hp p hm x hx
 ·rw[if_neg h,List.mem_singleton] at hx;subst hx;exact h
theorem F5 {l:List Ty} {x:Ty} (h:x∈Cd l):x.k≠15:=by
 obtain⟨p,_,hx⟩:=Dw.1 (By.1 h).1;exact Pr p x hx
theorem Z6 {l:List Ty} {x:Ty} (h:x∈Cd l):x.k≠1:=by
 intro e;have:=(By.1 h).2;unfold Cx at this;rw[if_pos e] at this
 cases this
def Ip (t:Ty):List Ty:=if t.k=15 then t.ps else if t.k=1 then [] else [t]
theorem Tc:∀ {s:List Ty},(∀ x∈s,x.k≠15/\x.k≠1)->Ip (Fq s)=s
 | [],_=>rfl
 | [x],h=>by
  obtain⟨h1,h2⟩:=h x (by simp);show (if x.k=15 then x.ps else if x.k=1 then [] else [x])=[x];rw[if_neg h1,if_neg h2]
 | x :: y :: l,_=>rfl
theorem Fo (l:List Ty):Ip (Bi l)=C0 (Cd l):=
 Tc fun x hx=>⟨F5 ((Cj x _).1 hx),Z6 ((Cj x _).1 hx)⟩
theorem El {l:List Ty} {x:Ty}:x∈Ip (Bi l)↔x∈Cd l:=by rw[Fo,Cj]
theorem I0 {t:Ty} (h:t.k≠15):Cq t=[t]:=by
 obtain⟨k,s,n,ps,fs,vs⟩:=t;have h':¬ k=15:=h;rw[Ck,if_neg h']
theorem D7:∀ {l:List Ty},(∀ x∈l,x.k≠15)->Bb l=l
 | [],_=>rfl
 | a :: l,h=>by
  rw[He,I0 (h a List.mem_cons_self),D7 fun x hx=>h x (List.mem_cons_of_mem _ hx)];rfl
theorem Os {t:Ty} (h:t.k=15):Cq t=Bb t.ps:=by
 obtain⟨k,s,n,ps,fs,vs⟩:=t;have h':k=15:=h;rw[Ck,if_pos h'];rfl
theorem Hl (l:List Ty):∀ x,x∈Cq (Bi l)↔x∈Cd l\/(Cd l=[]/\x=E7 1):=by
 have hs:=Fo l;intro x;unfold Bi at hs ⊢;have hm:∀ y,y∈C0 (Cd l)↔y∈Cd l:=fun y=>Cj y _;generalize hg:C0 (Cd l)=s at hs hm;rcases s with _ | ⟨a,_ | ⟨b,s⟩⟩
 ·have h0:Cd l=[]:=by
   rcases hk:Cd l with _ | ⟨c,r⟩
   ·rfl
   ·have:=(hm c).2 (by rw[hk];simp);cases this
  have e:Cq (Fq [])=[E7 1]:=I0 (by decide);rw[e,h0];simp
 ·have ha:a∈Cd l:=(hm a).1 (by simp);have e:Cq (Fq [a])=[a]:=I0 (F5 ha);rw[e,<-hm x]
  constructor
  ·exact .inl
  ·rintro (h | ⟨h,-⟩)
   ·exact h
   ·rw[h] at ha;cases ha
 ·have e:Cq (Fq (a :: b :: s))=Bb (a :: b :: s):=Os rfl;rw[e,D7 fun y hy=>F5 ((hm y).1 hy),<-hm x]
  constructor
  ·exact .inl
  ·rintro (h | ⟨h,-⟩)
   ·exact h
   ·have:=(hm a).1 (by simp);rw[h] at this;cases this
def Jq (t:Ty):Prop:=(t.k=2->C6 t=false)/\(t.k=7\/t.k=8\/t.k=9\/t.k=10->C6 t=false)
theorem Fd (h:Kinds) {t:Ty} (h3:t.k≠3) (h1:t.k≠1) (h2:t.k≠2) (ha:h.a=true\/h.u=true):Cx h t=C6 t:=by
 unfold Cx;rw[if_neg h1,if_neg h3,if_neg (fun e=>h2 e.1),if_pos ha]
theorem En (h:Kinds) {t:Ty} (h3:t.k≠3) (h1:t.k≠1) (h2:t.k≠2) (ha:h.a=false) (hu:h.u=false):Cx h t=(if t.k=9 then !h.n else if t.k=10 then !h.s else true):=by
 unfold Cx;rw[if_neg h1,if_neg h3,if_neg (fun e=>h2 e.1),if_neg (by rw[ha,hu];simp)]
theorem Ll (h:Kinds) {t:Ty} (h1:t.k=1):Cx h t=false:=by unfold Cx;rw[if_pos h1]
theorem Ji (h:Kinds) {t:Ty} (h1:t.k=3):Cx h t=true:=by unfold Cx;rw[if_neg (by omega),if_pos h1]
theorem Jh (h:Kinds) {t:Ty} (h1:t.k=2) (hi:C6 t=false):Cx h t = !h.a:=by
 unfold Cx;rw[if_neg (by omega),if_neg (by omega)]
 cases ha:h.a
 ·rw[if_pos ⟨h1,rfl⟩];rfl
 ·rw[if_neg (by simp),if_pos (.inl rfl),hi];rfl
theorem Ld (l:List Ty):(Bs l).a=Ce 3 l:=rfl
theorem To (l:List Ty):(Bs l).u=Ce 2 l:=rfl
theorem Jc4 (l:List Ty):(Bs l).n=Ce 7 l:=rfl
theorem Jde (l:List Ty):(Bs l).s=Ce 8 l:=rfl
theorem Jcr {k:Int} {l l':List Ty} (h:∀ x∈l,x∈l') (hk:Ce k l=true):Ce k l'=true:=by
 obtain⟨t,a,b⟩:=Gt.1 hk;exact Gt.2 ⟨t,h t a,b⟩
theorem Fl {k:Int} {l l':List Ty} (h:∀ x∈l,x∈l') (hk:Ce k l'=false):Ce k l=false:=by
 cases e:Ce k l
 ·rfl
 ·rw[Jcr h e] at hk;cases hk
theorem R5 (ls:List (List Ty)) (hP:∀ l∈ls,∀ x∈Bb l,Jq x):Bi (ls.map Bi)=Bi ls.flatten:=by
 have hF:∀ x,x∈Bb ls.flatten↔∃ l∈ls,x∈Bb l:=fun x=>by
  rw[Dw]
  constructor
  ·rintro⟨p,hp,hx⟩;obtain⟨l,hl,hp⟩:=List.mem_flatten.1 hp;exact⟨l,hl,Dw.2 ⟨p,hp,hx⟩⟩
  ·rintro⟨l,hl,hx⟩;obtain⟨p,hp,hx⟩:=Dw.1 hx;exact⟨p,List.mem_flatten.2 ⟨l,hl,hp⟩,hx⟩
 have hG:∀ x,x∈Bb (ls.map Bi)↔∃ l∈ls,x∈Cd l\/(Cd l=[]/\x=E7 1):=fun x=>by
  rw[Dw]
  constructor
  ·rintro⟨p,hp,hx⟩;obtain⟨l,hl,rfl⟩:=List.mem_map.1 hp;exact⟨l,hl,(Hl l x).1 hx⟩
  ·rintro⟨l,hl,hx⟩;exact⟨_,List.mem_map.2 ⟨l,hl,rfl⟩,(Hl l x).2 hx⟩
 have hPF:∀ x∈Bb ls.flatten,Jq x:=fun x hx=>by
  obtain⟨l,hl,hx⟩:=(hF x).1 hx;exact hP l hl x hx
 refine Nh fun x=>?_;rw[By,By];generalize Bb ls.flatten=F at hF hPF ⊢;generalize Bb (ls.map Bi)=G at hG ⊢;have lF:∀ l∈ls,∀ x∈Bb l,x∈F:=fun l hl x hx=>(hF x).2 ⟨l,hl,hx⟩;have GF:∀ {k:Int},k≠1->Ce k G=true->Ce k F=true:=fun hk h=>by
  obtain⟨t,ht,e⟩:=Gt.1 h;obtain⟨l,hl,hx | ⟨_,rfl⟩⟩:=(hG t).1 ht
  ·exact Gt.2 ⟨t,lF l hl t (By.1 hx).1,e⟩
  ·exact absurd (show _=(1:Int) from e.symm) hk
 have ga:Ce 3 G=Ce 3 F:=by
  rw[Bool.eq_iff_iff];refine⟨GF (by decide),fun h=>?_⟩;obtain⟨t,ht,e⟩:=Gt.1 h;obtain⟨l,hl,hx⟩:=(hF t).1 ht;exact Gt.2 ⟨t,(hG t).2 ⟨l,hl,.inl (By.2 ⟨hx,Ji _ e⟩)⟩,e⟩
 have gu:Ce 3 F=false->Ce 2 G=Ce 2 F:=fun h3=>by
  rw[Bool.eq_iff_iff];refine⟨GF (by decide),fun h=>?_⟩;obtain⟨t,ht,e⟩:=Gt.1 h;obtain⟨l,hl,hx⟩:=(hF t).1 ht;refine Gt.2 ⟨t,(hG t).2 ⟨l,hl,.inl (By.2 ⟨hx,?_⟩)⟩,e⟩;rw[Jh _ e ((hPF t ht).1 e),Ld,Fl (lF l hl) h3];rfl
 have gn:∀ {k:Int},k=7\/k=8->Ce 3 F=false->Ce 2 F=false->Ce k G=Ce k F:=fun {k} hk h3 h2=>by
  rw[Bool.eq_iff_iff];refine⟨GF (by omega),fun h=>?_⟩;obtain⟨t,ht,e⟩:=Gt.1 h;obtain⟨l,hl,hx⟩:=(hF t).1 ht;refine Gt.2 ⟨t,(hG t).2 ⟨l,hl,.inl (By.2 ⟨hx,?_⟩)⟩,e⟩;rw[En _ (by omega) (by omega) (by omega) (by rw[Ld];exact Fl (lF l hl) h3) (by rw[To];exact Fl (lF l hl) h2),if_neg (by omega),if_neg (by omega)]
 have key:x∈F->x.k≠1->Cx (Bs G) x=Cx (Bs F) x:=fun hx h1=>by
  by_cases h3:x.k=3
  ·rw[Ji _ h3,Ji _ h3]
  by_cases h2:x.k=2
  ·rw[Jh _ h2 ((hPF x hx).1 h2),Jh _ h2 ((hPF x hx).1 h2),Ld,Ld,ga]
  cases ha:Ce 3 F
  ·have hu:=gu ha
   cases hu2:Ce 2 F
   ·rw[hu2] at hu;rw[En _ h3 h1 h2 (by rw[Ld,ga,ha]) (by rw[To,hu]),En _ h3 h1 h2 (by rw[Ld,ha]) (by rw[To,hu2]),Jc4,Jc4,Jde,Jde,gn (.inl rfl) ha hu2,gn (.inr rfl) ha hu2]
   ·rw[hu2] at hu;rw[Fd _ h3 h1 h2 (.inr (by rw[To,hu])),Fd _ h3 h1 h2 (.inr (by rw[To,hu2]))]
  ·rw[Fd _ h3 h1 h2 (.inl (by rw[Ld,ga,ha])),Fd _ h3 h1 h2 (.inl (by rw[Ld,ha]))]
 constructor
 ·rintro⟨hx,hk⟩;have h1:x.k≠1:=fun e=>by rw[Ll _ e] at hk;cases hk
  obtain⟨l,hl,h | ⟨_,rfl⟩⟩:=(hG x).1 hx
  ·have hxF:=lF l hl x (By.1 h).1;exact⟨hxF,by rw[<-key hxF h1];exact hk⟩
  ·exact absurd rfl h1
 ·rintro⟨hx,hk⟩;have h1:x.k≠1:=fun e=>by rw[Ll _ e] at hk;cases hk
  refine⟨?_,by rw[key hx h1];exact hk⟩;obtain⟨l,hl,hxl⟩:=(hF x).1 hx;refine (hG x).2 ⟨l,hl,.inl (By.2 ⟨hxl,?_⟩)⟩;by_cases h3:x.k=3
  ·exact Ji _ h3
  by_cases h2:x.k=2
  ·rw[Jh _ h2 ((hPF x hx).1 h2),Ld] at hk ⊢;rw[Fl (lF l hl) (by simpa using hk)];rfl
  have hfree:C6 x=true->(x.k≠9/\x.k≠10):=fun hi=>by
   have:=(hPF x hx).2
   constructor <;> intro e <;> rw[this (by omega)] at hi <;> cases hi
  by_cases hau:(Bs F).a=true\/(Bs F).u=true
  ·rw[Fd _ h3 h1 h2 hau] at hk;by_cases hal:(Bs (Bb l)).a=true\/(Bs (Bb l)).u=true
   ·rw[Fd _ h3 h1 h2 hal];exact hk
   ·rw[En _ h3 h1 h2 (by simpa using fun e=>hal (.inl e)) (by simpa using fun e=>hal (.inr e)),if_neg (hfree hk).1,if_neg (hfree hk).2]
  ·have a0:Ce 3 F=false:=by simpa [Ld] using fun e=>hau (.inl e)
   have u0:Ce 2 F=false:=by simpa [To] using fun e=>hau (.inr e)
   rw[En _ h3 h1 h2 a0 u0] at hk;rw[En _ h3 h1 h2 (Fl (lF l hl) a0) (Fl (lF l hl) u0)];by_cases h9:x.k=9
   ·rw[if_pos h9] at hk ⊢;rw[Jc4] at hk ⊢;rw[Fl (lF l hl) (by simpa using hk)];rfl
   ·rw[if_neg h9] at hk ⊢;by_cases h10:x.k=10
    ·rw[if_pos h10] at hk ⊢;rw[Jde] at hk ⊢;rw[Fl (lF l hl) (by simpa using hk)];rfl
    ·rw[if_neg h10]
theorem Xg (l:List Ty) (hP:∀ x∈Bb l,Jq x):Bi [Bi l]=Bi l:=by
 have:=R5 [l] (fun m hm=>by rw[List.mem_singleton] at hm;subst hm;exact hP);simpa using this
theorem R4 (l:List Ty) (hP:∀ x∈Bb l,Jq x):Bi (Ip (Bi l))=Bi l:=by
 refine Eq.trans (Nh fun x=>?_) (Xg l hP);have h1:∀ y∈Ip (Bi l),y.k≠15:=fun y hy=>F5 (El.1 hy);have e:∀ y,y∈Bb (Ip (Bi l))↔y∈Cd l:=fun y=>by rw[D7 h1,El]
 have e2:∀ y,y∈Bb [Bi l]↔y∈Cd l\/(Cd l=[]/\y=E7 1):=fun y=>by
  rw[Dw];simp only[List.mem_singleton,exists_eq_left];exact Hl l y
 by_cases h0:Cd l=[]
 ·rw[By,By,e,e2,h0]
  constructor
  ·rintro⟨h,-⟩;cases h
  ·rintro⟨h | ⟨-,rfl⟩,h2⟩
   ·cases h
   ·rw[Ll _ rfl] at h2;cases h2
 ·have e3:∀ y,y∈Bb (Ip (Bi l))↔y∈Bb [Bi l]:=fun y=>by rw[e,e2];simp[h0]
  rw[By,By,Kv e3,e3 x]
theorem Gx (a b c:Int):Fe (Fe a b) c=Fe a (Fe b c):=by
 unfold Fe;by_cases h:a=0 <;> simp[h]
def Gw (w w':World):Prop:=∃ q os,w'=Go.Sort.grow (w.drewN q) os
theorem Gw.refl (w:World):Gw w w:=⟨0,#[],by rw[Go.Sort.grow_empty];rfl⟩
theorem Vu (w:World) (m n:Nat):(w.drewN m).drewN n=w.drewN (m+n):=by
 simp only[World.drewN,Nat.add_assoc]
theorem Gw.trans {a b c:World} (h:Gw a b) (h':Gw b c):Gw a c:=by
 obtain⟨q,os,rfl⟩:=h;obtain⟨q',os',rfl⟩:=h';refine⟨q+q',os++os',?_⟩;rw[<-Vu,<-Go.Sort.grow_grow];rfl
theorem Gw.drew {a b:World} (h:Gw a b):Gw a b.drew:=h.trans ⟨1,#[],by rw[Go.Sort.grow_empty];rfl⟩
theorem Gw.alloc {a b:World} (h:Gw a b) (o:Obj):Gw a (b.alloc o):=h.trans ⟨0,#[o],by rw[Go.Sort.alloc_eq_grow];rfl⟩
theorem Gw.below {a b:World} (h:Gw a b):Below a.heap.size a b:=by
 obtain⟨q,os,rfl⟩:=h;exact⟨rfl,rfl,rfl,by simp[Go.Sort.grow,World.drewN],fun k hk=>by
  show (a.heap++os)[k]?=a.heap[k]?;rw[Array.getElem?_append_left hk]⟩
theorem Xx (W:World) (x y z:Int):(W.alloc (.cells #[.int .i64 x,.int .i64 y,.int .i64 z] 3)).drew.cell? ⟨W.heap.size,0,none⟩=some (.int .i64 x)/\(W.alloc (.cells #[.int .i64 x,.int .i64 y,.int .i64 z] 3)).drew.cell? ⟨W.heap.size,1,none⟩=some (.int .i64 y)/\(W.alloc (.cells #[.int .i64 x,.int .i64 y,.int .i64 z] 3)).drew.cell? ⟨W.heap.size,2,none⟩=some (.int .i64 z):=
 ⟨World.cell?_alloc_at _ _ _ _ rfl,World.cell?_alloc_at _ _ _ _ rfl,World.cell?_alloc_at _ _ _ _ rfl⟩
theorem Jea (W:World) (x y:Int):(W.alloc (.cells #[.int .i64 x,.int .i64 y] 3)).drew.cell? ⟨W.heap.size,0,none⟩=some (.int .i64 x)/\(W.alloc (.cells #[.int .i64 x,.int .i64 y] 3)).drew.cell? ⟨W.heap.size,1,none⟩=some (.int .i64 y):=
 ⟨World.cell?_alloc_at _ _ _ _ rfl,World.cell?_alloc_at _ _ _ _ rfl⟩
theorem Ed {n k:Nat} (h:n<k):k - (intOf (Value.int .i64 ((n:Int)+1))).toNat<k - (intOf (Value.int .i64 (n:Int))).toNat:=by
 simp only[intOf];omega
structure OrdP (f:Nat) (R:World->Nat->Nat->Prop) (R':World->Nat->Nat->Prop) (c:Int):Prop where
 ok:∀ (w:World) (b o b' o':Nat),R w b o->R' w b' o'->Calls Tryz.prog f #[.pointer (some ⟨b,o,none⟩),.pointer (some ⟨b',o',none⟩)] w fun e w'=>e=.returned (.int .i64 c)/\Gw w w'
theorem U8 {α:Type} (E:α->List Tok) (hE:∀ x y,Clean (E x) (E y) (Bv (E x) (E y))) (R R':α->World->Nat->Nat->Prop) (hR:∀ x w w' b o,Below w.heap.size w w'->R x w b o->R x w' b o) (hR':∀ x w w' b o,Below w.heap.size w w'->R' x w b o->R' x w' b o)
  (l l':List α) (hl:∀ x∈l,∀ y,OrdP 104 (R x) (R' y) (Bv (E x) (E y))) (A A':Option Addr) (c c':Nat) (w:World) (b o b' o':Nat) (hA:0<l.length->A=some ⟨b,o,none⟩) (hA':0<l'.length->A'=some ⟨b',o',none⟩) (hlen:l.length<=1000000000000000) (_hlen':l'.length<=1000000000000000)
  (hx:∀ i (h:i<l.length),R l[i] w b (o+i*6)) (hx':∀ i (h:i<l'.length),R' l'[i] w b' (o'+i*6)) :
  Calls Tryz.prog 145 #[.slice A l.length c,.slice A' l'.length c',.func (.func 104) #[] #[]] w fun e w'=>e=.returned (.int .i64 (Bv (E4 E l) (E4 E l')))/\Gw w w':=by
 by_cases heq:l.length=l'.length
 case neg=>
  rw[Ij E heq];have tc:(De l.length l'.length != 0)=true:=by
   rw[bne_iff_ne];exact fun h=>heq (by have:=H9 h;omega)
  have KC:=Hd (Et (l.length:Int) (l'.length:Int));generalize De (l.length:Int) (l'.length:Int)=cz at tc KC;clear heq hx hx' hl hR hR' hA hA';go_enter Tryz.func145,Tryz.ntmps145;go_wp2_with fail;refine (KC.out _).mono ?_;rintro e w1 ⟨rfl,rfl⟩;go_wp2_with fail;go_ret
  exact⟨rfl,Gw.refl _⟩
 rw[G0 E heq];have HE:=Hd hE;have HR:=Hd hR;have HR':=Hd hR';have HO:=Hd hl;have HA:=Hd hA;have HA':=Hd hA';have HX:=Hd hx;have HX':=Hd hx';have HBg:=Hd hlen;have HQ:=Hd heq;have KC:=Hd (Et (l.length:Int) (l'.length:Int));rw[show De (l.length:Int) (l'.length:Int)=0 from by rw[heq];exact H8 _] at KC;generalize hres:Ct E l l' 0=res;have HRes:=Hd hres;clear hE hR hR' hl hA hA' hx hx' hres;obtain⟨m,hm⟩:∃ m,m=l.length:=⟨_,rfl⟩;obtain⟨m',hm'⟩:∃ m',m'=l'.length:=⟨_,rfl⟩;rw[<-hm,<-hm'] at heq KC;rw[<-hm,<-hm'];rw[<-hm] at hlen HBg;have HM:=Hd (And.intro hm hm');subst heq;clear _hlen' hm hm';go_enter Tryz.func145,Tryz.ntmps145;go_wp2_with fail;refine (KC.out _).mono ?_;rintro e w1 ⟨rfl,rfl⟩;go_wp2_with fail
 go_loopw [20] (fun v wr=>∃ n:Nat,n<=m/\v=.int .i64 n/\Gw w wr/\Ct E l l' n=res) (fun v _=>m - (intOf v).toNat)
 case atStart=>exact⟨0,by omega,rfl,Gw.refl _,HRes.out⟩
 case round=>
  obtain⟨n,hn,rfl,hb,hrest⟩:=hrel;have HB:=Hd hb;have HRst:=Hd hrest;clear hb hrest;by_cases hlt:n<m
  case neg=>
   obtain rfl:n=m:=by omega
   have tl:decide ((n:Int)<(n:Int))=false:=by simp
   have h0:res=0:=by rw[<-HRst.out,HM.out.1];exact Gz E HQ.out
   have H0:=Hd h0;clear hlt h0;go_wp2_with fail;go_ret
   exact⟨by rw[H0.out];rfl,HB.out⟩
  have tl:decide ((n:Int)<(m:Int))=true:=by simp;omega
  have hn1:n<l.length:=by rw[<-HM.out.1];exact hlt
  have hn2:n<l'.length:=by rw[<-HM.out.2];exact hlt
  have hA:=HA.out (by omega);have hA':=HA'.out (by omega);subst hA hA';have HL:=Hd hlt;have hstep:=F7 E HE.out HQ.out hn1 hn2;rw[HRst.out] at hstep;have K7:=Hd ((HO.out l[n] (List.getElem_mem hn1) l'[n]).ok wr.drew b (o+n*6) b' (o'+n*6) (HR.out _ _ _ _ _ HB.out.drew.below (HX.out n hn1)) (HR'.out _ _ _ _ _ HB.out.drew.below (HX'.out n hn2)));generalize Bv (E l[n]) (E l'[n])=c7 at hstep K7;have HNext:Hid (c7=0->Ct E l l' (n+1)=res):=Hd fun h=>by rw[hstep,h,Bj]
  have HStop:Hid (c7≠0->res=c7):=Hd fun h=>by rw[hstep,Dg h]
  have hltn:n<m:=hlt;clear hstep hlt hn1 hn2;go_wp2_with fail;go_wp2_with fail;refine wp_region_held_drew (S:=(fun _=>True)) (by kernel_rfl) trivial (fun hHeld=>?_);refine Plan.start [0,1,2,3,4,5,6] ?_
  iterate 7 (refine Plan.tk (so rfl) hHeld ?_;try simp only[Act.put,Ax,Ay,Az])
  refine Plan.done ?_;refine wpAnyH_ready (rs:=[7]) (by kernel_rfl) (by simp) ?_;refine AllReadyH.cons (sd (some 30) rfl) (fun K hK=>?_) AllReadyH.nil;go_simp;refine K7.out.mono ?_;rintro e w7 ⟨rfl,hb7⟩;have HB7:=Hd hb7;clear hb7;go_wp2_with fail;refine hK.out _ _ (trivial) (fun hHeld=>?_);clear hK K;try simp only[Act.put,Ax,Ay,Az]
  refine Plan.start [8] ?_;refine Plan.tk (so rfl) hHeld ?_;try simp only[Act.put,Ax,Ay,Az]
  refine Plan.done ?_;refine wpAnyH_done (by kernel_rfl) ?_ _;clear hHeld;by_cases hc:c7=0
  ·have tc:(c7 != 0)=false:=by simpa using hc
   have HR2:=Hd (HNext.out hc);clear hc;go_wp2_with fail;refine⟨⟨n+1,HL.out,by go_num,HB.out.drew.trans HB7.out,HR2.out⟩,?meas⟩
   case meas=>exact Ed HL.out
  ·have tc:(c7 != 0)=true:=by simpa using hc
   have HR2:=Hd (HStop.out hc);clear hc;go_wp2_with fail;go_ret
   exact⟨by rw[<-HR2.out];rfl,HB.out.drew.trans HB7.out⟩
def Oy:Nat->ByteArray->ByteArray
 | 0,s=>s
 | n+1,s=>if 0<s.size/\Cz s (s.size - 1)=39 then Oy n (s.extract 0 (s.size - 1)) else s
def Ej (s:ByteArray):ByteArray:=Oy s.size s
def Bo (s:ByteArray):Bool:=Od (Ej s)
theorem Pw {s:ByteArray} {m:Nat} (h:s.size=m+1) (hb:Cz s m=39):Ej s=Ej (s.extract 0 m):=by
 have h2:(s.extract 0 m).size=m:=by rw[ByteArray.size_extract];omega
 unfold Ej;rw[h2,h,Oy,if_pos ⟨by omega,by rw[h];exact hb⟩,h];rfl
theorem Oz {s:ByteArray} {m:Nat} (h:s.size=m+1) (hb:Cz s m≠39):Ej s=s:=by
 unfold Ej;rw[h,Oy,if_neg (fun hx=>hb (by have:=hx.2;rw[h] at this;exact this))]
theorem Ki {s:ByteArray} (h:s.size=0):Ej s=s:=by
 unfold Ej;rw[h];rfl
theorem Hq {n:Int} (h:0<=n) (h2:n<=1000000000000000000):wrap64 n=n:=by
 have e:IntKind.i64.wrap n=wrap64 n:=by unfold wrap64;exact IntKind.wrap_i64 n
 rw[<-e];simp[IntKind.wrap,IntKind.bits,IntKind.signed];omega
theorem Ng:∀ n s,(Oy n s).size<=s.size
 | 0,_=>Nat.le_refl _
 | n+1,s=>by
  rw[Oy]
  split
  ·refine Nat.le_trans (Ng n _) ?_;rw[ByteArray.size_extract];omega
  ·exact Nat.le_refl _
theorem Tm (s:ByteArray):(Ej s).size<=s.size:=Ng _ _
theorem Nb (t:ByteArray) {m:Nat} (h:t.size=m+1):(t.extract 0 m).size=m:=by rw[ByteArray.size_extract];omega
theorem Tn (s:ByteArray) (w:World) (hs:s.size<=1000000000000000) :
  Calls Tryz.prog 108 #[.string s,.int .u8 39] w fun e w'=>e=.returned (.string (Ej s))/\w'=w:=by
 go_enter Tryz.func108,Tryz.ntmps108;go_wp2_with fail
 go_loopw [0] (fun v wr=>∃ t:ByteArray,v=.string t/\t.size<=s.size/\Ej t=Ej s/\wr=w) (fun v _=>match v with | .string t=>t.size | _=>0)
 case atStart=>exact⟨s,rfl,Nat.le_refl _,rfl,rfl⟩
 case round=>
  obtain⟨t,rfl,ht,hq,rfl⟩:=hrel;have HQ:=Hd hq;clear hq
  cases hm:t.size with
  | zero=>
   have HF:=Hd (Ki hm);go_wp2_with fail;go_ret
   exact⟨by rw[<-HQ.out,HF.out];rfl,rfl⟩
  | succ m=>
   have hb:=Gm t m (by omega);have HM:=Hd hm;have i0:(0:Int)<=(m:Int):=by omega
   have i1:(m:Int)<(m:Int)+1:=by omega
   have wr1:wrap64 (((m+1:Nat):Int) - 1)=(m:Int):=by rw[Hq (by omega) (by omega)];omega
   have wr3:wrap64 (m:Int)=(m:Int):=Hq (by omega) (by omega);have HSZ:=Hd (Nb t hm);by_cases h39:Cz t m=39
   ·have HG:=Hd (Pw hm h39);have te:((Cz t m:Int) == 39)=true:=(by simp;omega);have HT:=Hd ht;clear h39 ht;generalize Cz t m=bb at hb te;go_wp2_with fail;refine⟨⟨t.extract 0 m,by first | rfl | (rw[wr3];rfl),by rw[HSZ.out];have:=HT.out;have:=HM.out;omega,by rw[<-HG.out,HQ.out],by first | rfl | trivial⟩,?_⟩;try rw[wr3]
    show (t.extract 0 m).size<t.size;rw[HSZ.out,HM.out];omega
   ·have HF:=Hd (Oz hm h39);have te:((Cz t m:Int) == 39)=false:=(by simp;omega);have te2:(Cz t m == 39)=false:=(by simpa using h39);clear ht;generalize Cz t m=bb at hb te te2 h39;go_wp2_with fail;go_ret
    exact⟨by rw[<-HQ.out,HF.out];rfl,rfl⟩
theorem Xd (s:ByteArray) (w:World) (hs:s.size<=1000000000000000) :
  Calls Tryz.prog 80 #[.string s,.string ⟨#[39]⟩] w fun e w'=>e=.returned (.string (Ej s))/\w'=w:=by
 cases hl:s.toList with
 | nil=>
  have HF:=Hd (Ki (M8 hl));have HQ:=Hd hl;go_enter Tryz.func80,Tryz.ntmps80;go_wp2_with fail;go_ret
  exact⟨by rw[HF.out];rfl,rfl⟩
 | cons a l=>
  have KT:=Hd (Tn s w hs);go_enter Tryz.func80,Tryz.ntmps80;go_wp2_with fail;refine KT.out.mono ?_;rintro e w1 ⟨rfl,rfl⟩;go_wp2_with fail;go_ret
  exact⟨rfl,rfl⟩
theorem Eu (s:ByteArray) (w:World) (hs:s.size<=1000000000000000) :
  Calls Tryz.prog 41 #[.string s] w fun e w'=>e=.returned (.bool (Bo s))/\Below w.heap.size w w':=by
 have KT:=Hd (Xd s w hs);have KI:=Hd (Rd (Ej s) w (Nat.le_trans (Tm s) hs));unfold Bo;generalize Od (Ej s)=r at KI ⊢;generalize Ej s=q at KT KI;go_enter Tryz.func41,Tryz.ntmps41;go_wp2_with fail;refine KT.out.mono ?_;rintro e w1 ⟨rfl,rfl⟩;go_wp2_with fail;refine KI.out.mono ?_;rintro e w2 ⟨rfl,hb⟩;have HB:=Hd hb;clear hb;go_wp2_with fail;go_ret
 exact⟨rfl,HB.out⟩
theorem Jj (s:ByteArray) (w:World) (hs:s.size<=1000000000000000) :
  Calls Tryz.prog 16 #[.string s] w fun e w'=>e=.returned (.bool (Bo s))/\Below w.heap.size w w':=by
 have KI:Hid (∀ t:ByteArray,t.size<=s.size->Ej t=t->Ej t=Ej s->Calls Tryz.prog 39 #[.string t] w fun e w'=>e=.returned (.bool (Bo s))/\Below w.heap.size w w'):=Hd fun t ht h1 h2=>by
  unfold Bo;rw[<-h2,h1];exact S2 t w (Nat.le_trans ht hs)
 generalize Bo s=r at KI ⊢;go_enter Tryz.func16,Tryz.ntmps16;go_wp2_with fail
 go_loopw [0] (fun v wr=>∃ t:ByteArray,v=.string t/\t.size<=s.size/\Ej t=Ej s/\wr=w) (fun v _=>match v with | .string t=>t.size | _=>0)
 case atStart=>exact⟨s,rfl,Nat.le_refl _,rfl,rfl⟩
 case round=>
  obtain⟨t,rfl,ht,hq,rfl⟩:=hrel;have HQ:=Hd hq;clear hq
  cases hm:t.size with
  | zero=>
   have KT:=Hd (KI.out t ht (Ki hm) HQ.out);clear ht;go_wp2_with fail;refine KT.out.mono ?_;rintro e w2 ⟨rfl,hb⟩;have HB:=Hd hb;clear hb;go_wp2_with fail;go_ret
   exact⟨rfl,HB.out⟩
  | succ m=>
   have hb:=Gm t m (by omega);have HM:=Hd hm;have i0:(0:Int)<=(m:Int):=by omega
   have i1:(m:Int)<(m:Int)+1:=by omega
   have wr1:wrap64 (((m+1:Nat):Int) - 1)=(m:Int):=by rw[Hq (by omega) (by omega)];omega
   have wr3:wrap64 (m:Int)=(m:Int):=Hq (by omega) (by omega);have HSZ:=Hd (Nb t hm);by_cases h39:Cz t m=39
   ·have HG:=Hd (Pw hm h39);have te:((Cz t m:Int) == 39)=true:=(by simp;omega);have HT:=Hd ht;clear h39 ht;generalize Cz t m=bb at hb te;go_wp2_with fail;refine⟨⟨t.extract 0 m,by first | rfl | (rw[wr3];rfl),by rw[HSZ.out];have:=HT.out;have:=HM.out;omega,by rw[<-HG.out,HQ.out],by first | rfl | trivial⟩,?_⟩;try rw[wr3]
    show (t.extract 0 m).size<t.size;rw[HSZ.out,HM.out];omega
   ·have KT:=Hd (KI.out t ht (Oz hm h39) HQ.out);have te:((Cz t m:Int) == 39)=false:=(by simp;omega);have te2:(Cz t m == 39)=false:=(by simpa using h39);clear ht;generalize Cz t m=bb at hb te te2 h39;go_wp2_with fail;refine KT.out.mono ?_;rintro e w2 ⟨rfl,hb⟩;have HB:=Hd hb;clear hb;go_wp2_with fail;go_ret
    exact⟨rfl,HB.out⟩
theorem R9 {α:Type} (E:α->List Tok) (hE:∀ x y,Clean (E x) (E y) (Bv (E x) (E y))) (R R':α->World->Nat->Nat->Prop) (hR:∀ x w w' b o,Below w.heap.size w w'->R x w b o->R x w' b o) (hR':∀ x w w' b o,Below w.heap.size w w'->R' x w b o->R' x w' b o)
  (l l':List α) (hl:∀ x∈l,∀ y,OrdP 147 (R x) (R' y) (Bv (E x) (E y))) (A A':Option Addr) (c c':Nat) (w:World) (b o b' o':Nat) (hA:0<l.length->A=some ⟨b,o,none⟩) (hA':0<l'.length->A'=some ⟨b',o',none⟩) (hlen:l.length<=1000000000000000) (_hlen':l'.length<=1000000000000000)
  (hx:∀ i (h:i<l.length),R l[i] w b (o+i*8)) (hx':∀ i (h:i<l'.length),R' l'[i] w b' (o'+i*8)) :
  Calls Tryz.prog 146 #[.slice A l.length c,.slice A' l'.length c',.func (.func 147) #[] #[]] w fun e w'=>e=.returned (.int .i64 (Bv (E4 E l) (E4 E l')))/\Gw w w':=by
 by_cases heq:l.length=l'.length
 case neg=>
  rw[Ij E heq];have tc:(De l.length l'.length != 0)=true:=by
   rw[bne_iff_ne];exact fun h=>heq (by have:=H9 h;omega)
  have KC:=Hd (Et (l.length:Int) (l'.length:Int));generalize De (l.length:Int) (l'.length:Int)=cz at tc KC;clear heq hx hx' hl hR hR' hA hA';go_enter Tryz.func146,Tryz.ntmps146;go_wp2_with fail;refine (KC.out _).mono ?_;rintro e w1 ⟨rfl,rfl⟩;go_wp2_with fail;go_ret
  exact⟨rfl,Gw.refl _⟩
 rw[G0 E heq];have HE:=Hd hE;have HR:=Hd hR;have HR':=Hd hR';have HO:=Hd hl;have HA:=Hd hA;have HA':=Hd hA';have HX:=Hd hx;have HX':=Hd hx';have HBg:=Hd hlen;have HQ:=Hd heq;have KC:=Hd (Et (l.length:Int) (l'.length:Int));rw[show De (l.length:Int) (l'.length:Int)=0 from by rw[heq];exact H8 _] at KC;generalize hres:Ct E l l' 0=res;have HRes:=Hd hres;clear hE hR hR' hl hA hA' hx hx' hres;obtain⟨m,hm⟩:∃ m,m=l.length:=⟨_,rfl⟩;obtain⟨m',hm'⟩:∃ m',m'=l'.length:=⟨_,rfl⟩;rw[<-hm,<-hm'] at heq KC;rw[<-hm,<-hm'];rw[<-hm] at hlen HBg;have HM:=Hd (And.intro hm hm');subst heq;clear _hlen' hm hm';go_enter Tryz.func146,Tryz.ntmps146;go_wp2_with fail;refine (KC.out _).mono ?_;rintro e w1 ⟨rfl,rfl⟩;go_wp2_with fail
 go_loopw [20] (fun v wr=>∃ n:Nat,n<=m/\v=.int .i64 n/\Gw w wr/\Ct E l l' n=res) (fun v _=>m - (intOf v).toNat)
 case atStart=>exact⟨0,by omega,rfl,Gw.refl _,HRes.out⟩
 case round=>
  obtain⟨n,hn,rfl,hb,hrest⟩:=hrel;have HB:=Hd hb;have HRst:=Hd hrest;clear hb hrest;by_cases hlt:n<m
  case neg=>
   obtain rfl:n=m:=by omega
   have tl:decide ((n:Int)<(n:Int))=false:=by simp
   have h0:res=0:=by rw[<-HRst.out,HM.out.1];exact Gz E HQ.out
   have H0:=Hd h0;clear hlt h0;go_wp2_with fail;go_ret
   exact⟨by rw[H0.out];rfl,HB.out⟩
  have tl:decide ((n:Int)<(m:Int))=true:=by simp;omega
  have hn1:n<l.length:=by rw[<-HM.out.1];exact hlt
  have hn2:n<l'.length:=by rw[<-HM.out.2];exact hlt
  have hA:=HA.out (by omega);have hA':=HA'.out (by omega);subst hA hA';have HL:=Hd hlt;have hstep:=F7 E HE.out HQ.out hn1 hn2;rw[HRst.out] at hstep;have K7:=Hd ((HO.out l[n] (List.getElem_mem hn1) l'[n]).ok wr.drew b (o+n*8) b' (o'+n*8) (HR.out _ _ _ _ _ HB.out.drew.below (HX.out n hn1)) (HR'.out _ _ _ _ _ HB.out.drew.below (HX'.out n hn2)));generalize Bv (E l[n]) (E l'[n])=c7 at hstep K7;have HNext:Hid (c7=0->Ct E l l' (n+1)=res):=Hd fun h=>by rw[hstep,h,Bj]
  have HStop:Hid (c7≠0->res=c7):=Hd fun h=>by rw[hstep,Dg h]
  have hltn:n<m:=hlt;clear hstep hlt hn1 hn2;go_wp2_with fail;go_wp2_with fail;refine wp_region_held_drew (S:=(fun _=>True)) (by kernel_rfl) trivial (fun hHeld=>?_);refine Plan.start [0,1,2,3,4,5,6] ?_
  iterate 7 (refine Plan.tk (so rfl) hHeld ?_;try simp only[Act.put,Ax,Ay,Az])
  refine Plan.done ?_;refine wpAnyH_ready (rs:=[7]) (by kernel_rfl) (by simp) ?_;refine AllReadyH.cons (sd (some 30) rfl) (fun K hK=>?_) AllReadyH.nil;go_simp;refine K7.out.mono ?_;rintro e w7 ⟨rfl,hb7⟩;have HB7:=Hd hb7;clear hb7;go_wp2_with fail;refine hK.out _ _ (trivial) (fun hHeld=>?_);clear hK K;try simp only[Act.put,Ax,Ay,Az]
  refine Plan.start [8] ?_;refine Plan.tk (so rfl) hHeld ?_;try simp only[Act.put,Ax,Ay,Az]
  refine Plan.done ?_;refine wpAnyH_done (by kernel_rfl) ?_ _;clear hHeld;by_cases hc:c7=0
  ·have tc:(c7 != 0)=false:=by simpa using hc
   have HR2:=Hd (HNext.out hc);clear hc;go_wp2_with fail;refine⟨⟨n+1,HL.out,by go_num,HB.out.drew.trans HB7.out,HR2.out⟩,?meas⟩
   case meas=>exact Ed HL.out
  ·have tc:(c7 != 0)=true:=by simpa using hc
   have HR2:=Hd (HStop.out hc);clear hc;go_wp2_with fail;go_ret
   exact⟨by rw[<-HR2.out];rfl,HB.out.drew.trans HB7.out⟩
theorem Xr {α:Type} (E:α->List Tok) (hE:∀ x y,Clean (E x) (E y) (Bv (E x) (E y))) (R R':α->World->Nat->Nat->Prop) (hR:∀ x w w' b o,Below w.heap.size w w'->R x w b o->R x w' b o) (hR':∀ x w w' b o,Below w.heap.size w w'->R' x w b o->R' x w' b o)
  (l l':List α) (hl:∀ x∈l,∀ y,OrdP 149 (R x) (R' y) (Bv (E x) (E y))) (A A':Option Addr) (c c':Nat) (w:World) (b o b' o':Nat) (hA:0<l.length->A=some ⟨b,o,none⟩) (hA':0<l'.length->A'=some ⟨b',o',none⟩) (hlen:l.length<=1000000000000000) (_hlen':l'.length<=1000000000000000)
  (hx:∀ i (h:i<l.length),R l[i] w b (o+i*2)) (hx':∀ i (h:i<l'.length),R' l'[i] w b' (o'+i*2)) :
  Calls Tryz.prog 148 #[.slice A l.length c,.slice A' l'.length c',.func (.func 149) #[] #[]] w fun e w'=>e=.returned (.int .i64 (Bv (E4 E l) (E4 E l')))/\Gw w w':=by
 by_cases heq:l.length=l'.length
 case neg=>
  rw[Ij E heq];have tc:(De l.length l'.length != 0)=true:=by
   rw[bne_iff_ne];exact fun h=>heq (by have:=H9 h;omega)
  have KC:=Hd (Et (l.length:Int) (l'.length:Int));generalize De (l.length:Int) (l'.length:Int)=cz at tc KC;clear heq hx hx' hl hR hR' hA hA';go_enter Tryz.func148,Tryz.ntmps148;go_wp2_with fail;refine (KC.out _).mono ?_;rintro e w1 ⟨rfl,rfl⟩;go_wp2_with fail;go_ret
  exact⟨rfl,Gw.refl _⟩
 rw[G0 E heq];have HE:=Hd hE;have HR:=Hd hR;have HR':=Hd hR';have HO:=Hd hl;have HA:=Hd hA;have HA':=Hd hA';have HX:=Hd hx;have HX':=Hd hx';have HBg:=Hd hlen;have HQ:=Hd heq;have KC:=Hd (Et (l.length:Int) (l'.length:Int));rw[show De (l.length:Int) (l'.length:Int)=0 from by rw[heq];exact H8 _] at KC;generalize hres:Ct E l l' 0=res;have HRes:=Hd hres;clear hE hR hR' hl hA hA' hx hx' hres;obtain⟨m,hm⟩:∃ m,m=l.length:=⟨_,rfl⟩;obtain⟨m',hm'⟩:∃ m',m'=l'.length:=⟨_,rfl⟩;rw[<-hm,<-hm'] at heq KC;rw[<-hm,<-hm'];rw[<-hm] at hlen HBg;have HM:=Hd (And.intro hm hm');subst heq;clear _hlen' hm hm';go_enter Tryz.func148,Tryz.ntmps148;go_wp2_with fail;refine (KC.out _).mono ?_;rintro e w1 ⟨rfl,rfl⟩;go_wp2_with fail
 go_loopw [20] (fun v wr=>∃ n:Nat,n<=m/\v=.int .i64 n/\Gw w wr/\Ct E l l' n=res) (fun v _=>m - (intOf v).toNat)
 case atStart=>exact⟨0,by omega,rfl,Gw.refl _,HRes.out⟩
 case round=>
  obtain⟨n,hn,rfl,hb,hrest⟩:=hrel;have HB:=Hd hb;have HRst:=Hd hrest;clear hb hrest;by_cases hlt:n<m
  case neg=>
   obtain rfl:n=m:=by omega
   have tl:decide ((n:Int)<(n:Int))=false:=by simp
   have h0:res=0:=by rw[<-HRst.out,HM.out.1];exact Gz E HQ.out
   have H0:=Hd h0;clear hlt h0;go_wp2_with fail;go_ret
   exact⟨by rw[H0.out];rfl,HB.out⟩
  have tl:decide ((n:Int)<(m:Int))=true:=by simp;omega
  have hn1:n<l.length:=by rw[<-HM.out.1];exact hlt
  have hn2:n<l'.length:=by rw[<-HM.out.2];exact hlt
  have hA:=HA.out (by omega);have hA':=HA'.out (by omega);subst hA hA';have HL:=Hd hlt;have hstep:=F7 E HE.out HQ.out hn1 hn2;rw[HRst.out] at hstep;have K7:=Hd ((HO.out l[n] (List.getElem_mem hn1) l'[n]).ok wr.drew b (o+n*2) b' (o'+n*2) (HR.out _ _ _ _ _ HB.out.drew.below (HX.out n hn1)) (HR'.out _ _ _ _ _ HB.out.drew.below (HX'.out n hn2)));generalize Bv (E l[n]) (E l'[n])=c7 at hstep K7;have HNext:Hid (c7=0->Ct E l l' (n+1)=res):=Hd fun h=>by rw[hstep,h,Bj]
  have HStop:Hid (c7≠0->res=c7):=Hd fun h=>by rw[hstep,Dg h]
  have hltn:n<m:=hlt;clear hstep hlt hn1 hn2;go_wp2_with fail;go_wp2_with fail;refine wp_region_held_drew (S:=(fun _=>True)) (by kernel_rfl) trivial (fun hHeld=>?_);refine Plan.start [0,1,2,3,4,5,6] ?_
  iterate 7 (refine Plan.tk (so rfl) hHeld ?_;try simp only[Act.put,Ax,Ay,Az])
  refine Plan.done ?_;refine wpAnyH_ready (rs:=[7]) (by kernel_rfl) (by simp) ?_;refine AllReadyH.cons (sd (some 30) rfl) (fun K hK=>?_) AllReadyH.nil;go_simp;refine K7.out.mono ?_;rintro e w7 ⟨rfl,hb7⟩;have HB7:=Hd hb7;clear hb7;go_wp2_with fail;refine hK.out _ _ (trivial) (fun hHeld=>?_);clear hK K;try simp only[Act.put,Ax,Ay,Az]
  refine Plan.start [8] ?_;refine Plan.tk (so rfl) hHeld ?_;try simp only[Act.put,Ax,Ay,Az]
  refine Plan.done ?_;refine wpAnyH_done (by kernel_rfl) ?_ _;clear hHeld;by_cases hc:c7=0
  ·have tc:(c7 != 0)=false:=by simpa using hc
   have HR2:=Hd (HNext.out hc);clear hc;go_wp2_with fail;refine⟨⟨n+1,HL.out,by go_num,HB.out.drew.trans HB7.out,HR2.out⟩,?meas⟩
   case meas=>exact Ed HL.out
  ·have tc:(c7 != 0)=true:=by simpa using hc
   have HR2:=Hd (HStop.out hc);clear hc;go_wp2_with fail;go_ret
   exact⟨by rw[<-HR2.out];rfl,HB.out.drew.trans HB7.out⟩
def Hn:Go.Shelf.Ren:=⟨fun | 6=>100 | 15=>140 | 14=>139 | 28=>177 | 29=>178 | 20=>169 | 21=>170 | 22=>171 | 23=>172 | 24=>173 | 25=>174 | 26=>175 | 27=>176 | 46=>200 | 47=>201 | 48=>202 | 49=>203 | 50=>204 | 57=>215 | n=>n,fun | 22=>22 | 24=>26 | 25=>49 | 3=>3 | 39=>171 | 0=>0 | 53=>218 | 55=>220 | 4=>4 | 46=>211 | 45=>210 | 50=>215 | 5=>5 | 9=>9 | 66=>235 | 70=>127 | 76=>246 | 77=>247 | n=>n,fun n=>n⟩
theorem Jbd:Go.Proofs.SlLaysF0.n6 Tryz.prog Hn:={
 mixed:=by kernel_rfl
 f6:=⟨ "slices.SortFunc[[]plinth/api.Type,plinth/api.Type]",by decide,Tryz.func100.trans (congrArg some (by kernel_rfl))⟩
 f14:=⟨ "slices.pdqsortCmpFunc[plinth/api.Type]",by decide,Tryz.func139.trans (congrArg some (by kernel_rfl))⟩
 f15:=Tryz.func140.trans (congrArg some (by kernel_rfl))
 f20:=⟨ "slices.insertionSortCmpFunc[plinth/api.Type]",by decide,Tryz.func169.trans (congrArg some (by kernel_rfl))⟩
 f21:=⟨ "slices.heapSortCmpFunc[plinth/api.Type]",by decide,Tryz.func170.trans (congrArg some (by kernel_rfl))⟩
 f22:=⟨ "slices.breakPatternsCmpFunc[plinth/api.Type]",by decide,Tryz.func171.trans (congrArg some (by kernel_rfl))⟩
 f23:=⟨ "slices.choosePivotCmpFunc[plinth/api.Type]",by decide,Tryz.func172.trans (congrArg some (by kernel_rfl))⟩
 f24:=⟨ "slices.reverseRangeCmpFunc[plinth/api.Type]",by decide,Tryz.func173.trans (congrArg some (by kernel_rfl))⟩
 f25:=⟨ "slices.partialInsertionSortCmpFunc[plinth/api.Type]",by decide,Tryz.func174.trans (congrArg some (by kernel_rfl))⟩
 f26:=⟨ "slices.partitionEqualCmpFunc[plinth/api.Type]",by decide,Tryz.func175.trans (congrArg some (by kernel_rfl))⟩
 f27:=⟨ "slices.partitionCmpFunc[plinth/api.Type]",by decide,Tryz.func176.trans (congrArg some (by kernel_rfl))⟩
 f28:=Tryz.func177.trans (congrArg some (by kernel_rfl))
 f29:=Tryz.func178.trans (congrArg some (by kernel_rfl))
 f46:=⟨ "slices.siftDownCmpFunc[plinth/api.Type]",by decide,Tryz.func200.trans (congrArg some (by kernel_rfl))⟩
 f47:=Tryz.func201.trans (congrArg some (by kernel_rfl))
 f48:=Tryz.func202.trans (congrArg some (by kernel_rfl))
 f49:=⟨ "slices.medianAdjacentCmpFunc[plinth/api.Type]",by decide,Tryz.func203.trans (congrArg some (by kernel_rfl))⟩
 f50:=⟨ "slices.medianCmpFunc[plinth/api.Type]",by decide,Tryz.func204.trans (congrArg some (by kernel_rfl))⟩
 f57:=⟨ "slices.order2CmpFunc[plinth/api.Type]",by decide,Tryz.func215.trans (congrArg some (by kernel_rfl))⟩
 t0:=Tryz.underlying0
 a0:=Tryz.isAgg0
 z0:=Tryz.sizeOf0
 v0:=Tryz.zeroValue0
 t3:=Tryz.underlying3
 a3:=Tryz.isAgg3
 z3:=Tryz.sizeOf3
 v3:=Tryz.zeroValue3
 t4:=Tryz.underlying4
 a4:=Tryz.isAgg4
 z4:=Tryz.sizeOf4
 v4:=Tryz.zeroValue4
 t5:=Tryz.underlying5
 a5:=Tryz.isAgg5
 z5:=Tryz.sizeOf5
 v5:=Tryz.zeroValue5
 t9:=Tryz.underlying9
 a9:=Tryz.isAgg9
 z9:=Tryz.sizeOf9
 v9:=Tryz.zeroValue9
 t22:=Tryz.underlying22
 a22:=Tryz.isAgg22
 z22:=Tryz.sizeOf22
 v22:=Tryz.zeroValue22
 t25:=Tryz.underlying49
 a25:=Tryz.isAgg49
 z25:=Tryz.sizeOf49
 v25:=Tryz.zeroValue49
 t39:=Tryz.underlying171
 a39:=Tryz.isAgg171
 z39:=Tryz.sizeOf171
 v39:=Tryz.zeroValue171
 t45:=Tryz.underlying210
 a45:=Tryz.isAgg210
 z45:=Tryz.sizeOf210
 v45:=Tryz.zeroValue210
 t46:=Tryz.underlying211
 a46:=Tryz.isAgg211
 z46:=Tryz.sizeOf211
 v46:=Tryz.zeroValue211
 t50:=Tryz.underlying215
 a50:=Tryz.isAgg215
 z50:=Tryz.sizeOf215
 v50:=Tryz.zeroValue215
 t53:=Tryz.underlying218
 a53:=Tryz.isAgg218
 z53:=Tryz.sizeOf218
 v53:=Tryz.zeroValue218
 t55:=Tryz.underlying220
 a55:=Tryz.isAgg220
 z55:=Tryz.sizeOf220
 v55:=Tryz.zeroValue220
 t66:=Tryz.underlying235
 a66:=Tryz.isAgg235
 z66:=Tryz.sizeOf235
 v66:=Tryz.zeroValue235
 t70:=Tryz.underlying127
 a70:=Tryz.isAgg127
 z70:=Tryz.sizeOf127
 v70:=Tryz.zeroValue127
 t76:=Tryz.underlying246
 a76:=Tryz.isAgg246
 z76:=Tryz.sizeOf246
 v76:=Tryz.zeroValue246
 t77:=Tryz.underlying247
 a77:=Tryz.isAgg247
 z77:=Tryz.sizeOf247
 v77:=Tryz.zeroValue247
}
end Go.Proofs.YtlpfpehegddcfaaGreatDoor
