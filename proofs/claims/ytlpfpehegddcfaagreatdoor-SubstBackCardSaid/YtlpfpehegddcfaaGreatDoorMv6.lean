import Derived.Test.YtlpfpehegddcfaaGreatDoorMv5
namespace Go.Proofs.YtlpfpehegddcfaaGreatDoor
set_option maxRecDepth 100000
set_option maxHeartbeats 64000000
open Go.RowKit
def KB (w:World) (g:Nat) (h:Kinds):Prop:=w.heap[g]?=some (.cells #[.bool h.a,.bool h.u,.bool h.n,.bool h.s] 143 (0,0))
def I1 (h:Kinds) (k:Int):Kinds:=⟨h.a || k == 3,h.u || k == 2,h.n || k == 7,h.s || k == 8⟩
def SetAt (g:Nat) (w w':World):Prop:=w'=w\/∃ j v,w'=w.setCell ⟨g,j,none⟩ v
theorem SetAt.size {g:Nat} {w w':World} (h:SetAt g w w'):w'.heap.size=w.heap.size:=by
 rcases h with rfl | ⟨j,v,rfl⟩
 ·rfl
 ·simp[World.setCell]
theorem SetAt.block {g:Nat} {w w':World} (h:SetAt g w w') {b:Nat} (hb:b≠g):w'.heap[b]?=w.heap[b]?:=by
 rcases h with rfl | ⟨j,v,rfl⟩
 ·rfl
 ·exact Below.heap_setCell _ _ _ _ hb
theorem SetAt.below {g B:Nat} {a w w':World} (h:SetAt g w w') (hb:Below B a w) (hg:B<=g):Below B a w':=by
 rcases h with rfl | ⟨j,v,rfl⟩
 ·exact hb
 ·exact hb.setCell hg _
theorem Rf {w:World} {g:Nat} {h:Kinds} (hk:KB w g h):w.cell? ⟨g,0,none⟩=some (.bool h.a)/\w.cell? ⟨g,1,none⟩=some (.bool h.u)/\w.cell? ⟨g,2,none⟩=some (.bool h.n)/\w.cell? ⟨g,3,none⟩=some (.bool h.s):=
 ⟨cell_of_row _ _ 0 _ _ _ hk,cell_of_row _ _ 1 _ _ _ hk,cell_of_row _ _ 2 _ _ _ hk,cell_of_row _ _ 3 _ _ _ hk⟩
theorem Pk {w:World} {g:Nat} {h:Kinds} (hk:KB w g h) (j:Nat) (v:Value):(w.setCell ⟨g,j,none⟩ v).heap[g]?=some (.cells (#[.bool h.a,.bool h.u,.bool h.n,.bool h.s].setIfInBounds j v) 143 (0,0)):=
 Go.heap_setCell_same w g j _ _ v hk
theorem Lk {w:World} {g:Nat} {h:Kinds} (hk:KB w g h) (o:Nat):w.frozen? ⟨g,o,none⟩=false:=Lib.frozen_of_heap hk o
theorem Uz {w:World} {g:Nat} {h:Kinds} {b o:Nat} {k:Int} (hk:KB w g h) (hc:w.cell? ⟨b,o,none⟩=some (.int .i64 k)) :
  Calls Tryz.prog 138 #[.pointer (some ⟨g,0,none⟩),.pointer (some ⟨b,o,none⟩)] w fun e w'=>e=.returned (.tuple #[])/\KB w' g (I1 h k)/\SetAt g w w':=by
 obtain⟨c0,c1,c2,c3⟩:=Rf hk;have f0:=Lk hk 0;have f1:=Lk hk 1;have f2:=Lk hk 2;have f3:=Lk hk 3;have HK:=Hd hk;clear hk;by_cases h3:k=3
 ·subst h3;go_enter Tryz.func138,Tryz.ntmps138;go_wp2_with fail;exact bodyPost_end (v:=.tuple #[]) (by simp[results,Tryz.results138,go_sem]) rfl ⟨rfl,by unfold KB;rw[Pk HK.out];simp[I1],.inr ⟨_,_,rfl⟩⟩
 by_cases h2:k=2
 ·subst h2;go_enter Tryz.func138,Tryz.ntmps138;go_wp2_with fail;exact bodyPost_end (v:=.tuple #[]) (by simp[results,Tryz.results138,go_sem]) rfl ⟨rfl,by unfold KB;rw[Pk HK.out];simp[I1],.inr ⟨_,_,rfl⟩⟩
 by_cases h7:k=7
 ·subst h7;go_enter Tryz.func138,Tryz.ntmps138;go_wp2_with fail;exact bodyPost_end (v:=.tuple #[]) (by simp[results,Tryz.results138,go_sem]) rfl ⟨rfl,by unfold KB;rw[Pk HK.out];simp[I1],.inr ⟨_,_,rfl⟩⟩
 by_cases h8:k=8
 ·subst h8;go_enter Tryz.func138,Tryz.ntmps138;go_wp2_with fail;exact bodyPost_end (v:=.tuple #[]) (by simp[results,Tryz.results138,go_sem]) rfl ⟨rfl,by unfold KB;rw[Pk HK.out];simp[I1],.inr ⟨_,_,rfl⟩⟩
 have t3:(k == 3)=false:=by simpa using h3
 have t2:(k == 2)=false:=by simpa using h2
 have t7:(k == 7)=false:=by simpa using h7
 have t8:(k == 8)=false:=by simpa using h8
 have hs:I1 h k=h:=by unfold I1;rw[t3,t2,t7,t8];simp
 have HS:=Hd hs;clear h2 h3 h7 h8 hs;go_enter Tryz.func138,Tryz.ntmps138;go_wp2_with fail;exact bodyPost_end (v:=.tuple #[]) (by simp[results,Tryz.results138,go_sem]) rfl ⟨rfl,by rw[HS.out];exact HK.out,.inl rfl⟩
theorem Rg {K:Nat->Prop} {w:World} {g:Nat} {h:Kinds} {t:Ty} {b o:Nat} (hk:KB w g h) (ht:AtT K w t b o) :
  Calls Tryz.prog 99 #[.pointer (some ⟨g,0,none⟩),.pointer (some ⟨b,o,none⟩)] w fun e w'=>e=.returned (.bool (Cx h t))/\w'=w:=by
 obtain⟨c0,c1,c2,c3⟩:=Rf hk;have KI:=Hd (Jcu t K w b o ht);obtain⟨k,s,n,ps,fs,vs⟩:=t;obtain⟨A,c,A2,d2,A3,d3,⟨x0,-,-,-,-,-⟩,-⟩:=ht.six;generalize hi:C6 (.mk k s n ps fs vs)=q at KI;have hkp:Cx h (.mk k s n ps fs vs)=if k=1 then false else if k=3 then true else if k=2/\h.a=false then true else if h.a=true\/h.u=true then q else if k=9 then !h.n else if k=10 then !h.s else true:=by unfold Cx;rw[hi];rfl
 rw[hkp];obtain⟨ha,hu,hn,hs⟩:=h;simp only at c0 c1 c2 c3 ⊢;clear hk ht hi hkp;by_cases h1:k=1
 ·subst h1;go_enter Tryz.func99,Tryz.ntmps99;go_wp2_with fail;go_ret
  exact⟨rfl,rfl⟩
 have t1:(k == 1)=false:=by simpa using h1
 rw[if_neg h1];clear h1;by_cases h3:k=3
 ·subst h3;go_enter Tryz.func99,Tryz.ntmps99;go_wp2_with fail;go_ret
  exact⟨rfl,rfl⟩
 have t3:(k == 3)=false:=by simpa using h3
 rw[if_neg h3];clear h3;by_cases h2:k=2
 ·subst h2
  cases ha with
  | false=>
   go_enter Tryz.func99,Tryz.ntmps99;go_wp2_with fail;go_ret
   exact⟨rfl,rfl⟩
  | true=>
   rw[if_neg (by decide),if_pos (.inl rfl)];go_enter Tryz.func99,Tryz.ntmps99;go_wp2_with fail;refine KI.out.mono ?_;rintro e w2 ⟨rfl,rfl⟩;go_wp2_with fail;go_ret
   exact⟨rfl,rfl⟩
 have t2:(k == 2)=false:=by simpa using h2
 rw[if_neg (fun h=>h2 h.1)];clear h2
 cases ha with
 | true=>
  rw[if_pos (by simp)];go_enter Tryz.func99,Tryz.ntmps99;go_wp2_with fail;refine KI.out.mono ?_;rintro e w2 ⟨rfl,rfl⟩;go_wp2_with fail;go_ret
  exact⟨rfl,rfl⟩
 | false=>
 cases hu with
 | true=>
  rw[if_pos (by simp)];go_enter Tryz.func99,Tryz.ntmps99;go_wp2_with fail;refine KI.out.mono ?_;rintro e w2 ⟨rfl,rfl⟩;go_wp2_with fail;go_ret
  exact⟨rfl,rfl⟩
 | false=>
 rw[if_neg (by decide)];by_cases h9:k=9
 ·subst h9;go_enter Tryz.func99,Tryz.ntmps99;go_wp2_with fail;go_ret
  exact⟨rfl,rfl⟩
 have t9:(k == 9)=false:=by simpa using h9
 rw[if_neg h9];clear h9;by_cases h10:k=10
 ·subst h10;go_enter Tryz.func99,Tryz.ntmps99;go_wp2_with fail;go_ret
  exact⟨rfl,rfl⟩
 have t10:(k == 10)=false:=by simpa using h10
 rw[if_neg h10];clear h10;go_enter Tryz.func99,Tryz.ntmps99;go_wp2_with fail;go_ret
 exact⟨rfl,rfl⟩
open Go.RowKit Go.ChangeShapes Go.WideShapes Go.Deep
structure ListD (K:Nat->Prop) (w:World) (l:List (ByteArray×Ty)) (A:Option Addr) (c:Nat):Prop where
 ex:∃ b o,RowAt K A l.length c b o/\∀ i (h:i<l.length),w.cell? ⟨b,o+i*7,none⟩=some (.string l[i].1)/\l[i].1.size<=1000000000000000/\AtT K w l[i].2 b (o+i*7+1)
theorem D4 {P:Program} {t:TypeId} {z:Option Value} {s b:Nat} (h:(P.info? t).map (fun i=>(i.zero,i.size,i.bytes))=some (z,s,b)):∃ i,P.info? t=some i/\i.zero=z/\i.size=s/\i.bytes=b:=by
 cases hi:P.info? t with
 | none=>rw[hi] at h;cases h
 | some i=>rw[hi] at h;simp at h;exact⟨i,rfl,h.1,h.2.1,h.2.2⟩
theorem Hh:(Tryz.prog.info? 26).map (fun i=>(i.zero,i.size,i.bytes))=some (some (.agg #[.int .i64 0,.string ⟨#[]⟩,.int .i64 0,.slice none 0 0,.slice none 0 0,.slice none 0 0]),6,104):=by kernel_rfl
theorem Gk {w:World} {base:Nat} {e:TypeId} {size n:Nat} {v:Value} {xs:List Value} (h:w.ownsRow base e size v n xs):∃ A c,v=.slice A n c/\(A=none->n=0/\c=0):=by
 rcases h.2 with ⟨hv,hn⟩ | ⟨g,cap,cur,hv,_⟩
 ·exact⟨none,0,by rw[hv,hn],fun _=>⟨hn,rfl⟩⟩
 ·exact⟨_,cap,hv,fun h=>by cases h⟩
theorem Jfk {w:World} {base:Nat} {e:TypeId} {size n:Nat} {v:Value} {xs:List Value} (h:w.ownsRow base e size v n xs) {b:Nat} (hb:v.ownBlock=some b):∃ c,w.heap[b]?=some (.cells c e (0,0)):=by
 rcases h.2 with ⟨rfl,_⟩ | ⟨g,cap,cur,rfl,_,hg,_⟩
 ·cases hb
 ·injection hb with hb
  exact⟨cur,by rw[<-hb];exact hg⟩
theorem Dn (w:World) (cs:List Value) (T:TypeId):∀ j u,cs[j]?=some u->(w.alloc (.cells cs.toArray T)).cell? ((⟨w.heap.size,0,none⟩:Addr).add j)=some u:=by
 intro j u hj;have e:((⟨w.heap.size,0,none⟩:Addr).add j)=⟨w.heap.size,j,none⟩:=by
  unfold Addr.add;by_cases h2:j=0 <;> simp[h2]
 rw[e,Ch (heap_alloc_new w _)];simpa using hj
structure OutT (K:Nat->Prop) (w0 w:World) (v:Value) (ts:List Ty):Prop where
 ex:∃ vs,w.ownsRow w0.heap.size 26 6 v ts.length vs/\∀ i (h:i<ts.length),∃ cs,RepT K w0 ts[i] cs/\∀ j u,cs[j]?=some u->vs[i*6+j]?=some u
theorem RepT.six {K:Nat->Prop} {w:World} {t:Ty} {cs:List Value} (h:RepT K w t cs):cs.length=6:=by
 obtain⟨k,s,n,ps,fs,vs⟩:=t;obtain⟨A,c,A',c',A'',c'',rfl,_⟩:=h.inv;rfl
theorem OutT.snoc {K:Nat->Prop} {w0 w':World} {v':Value} {ts:List Ty} {t:Ty} {vs cs:List Value} (hl:vs.length=ts.length*6) (h:∀ i (h:i<ts.length),∃ cs,RepT K w0 ts[i] cs/\∀ j u,cs[j]?=some u->vs[i*6+j]?=some u)
  (ht:RepT K w0 t cs) (ho:w'.ownsRow w0.heap.size 26 6 v' (ts.length+1) (vs++cs)):OutT K w0 w' v' (ts++[t]):=by
 refine⟨⟨vs++cs,by rw[List.length_append];exact ho,fun i hi=>?_⟩⟩;rw[List.length_append,List.length_singleton] at hi;by_cases hlt:i<ts.length
 ·obtain⟨cs',h1,h2⟩:=h i hlt;refine⟨cs',by rw[List.getElem_append_left hlt];exact h1,fun j u hj=>?_⟩;have h3:=h2 j u hj;rw[List.getElem?_append_left (List.getElem?_eq_some_iff.1 h3).1];exact h3
 ·obtain rfl:i=ts.length:=by omega
  refine⟨cs,by rw[List.getElem_append_right (by omega)];simpa using ht,fun j u hj=>?_⟩;rw[List.getElem?_append_right (by omega),show ts.length*6+j - vs.length=j from by omega];exact hj
theorem OutT.keep {K:Nat->Prop} {w0 w w':World} {v:Value} {ts:List Ty} (h:OutT K w0 w v ts) (hk:∀ b,v.ownBlock=some b->w'.heap[b]?=w.heap[b]?):OutT K w0 w' v ts:=by
 obtain⟨vs,h1,h2⟩:=h;refine⟨vs,⟨h1.1,?_⟩,h2⟩;rcases h1.2 with h3 | ⟨g,cap,cur,hv,hg,hh,r⟩
 ·exact .inl h3
 ·exact .inr ⟨g,cap,cur,hv,hg,by rw[hk g (by rw[hv];rfl)];exact hh,r⟩
def H4 (h:Kinds) (l:List Ty):Kinds:=l.foldl (fun h t=>I1 h t.k) h
theorem M5 (h:Kinds) (l l':List Ty):H4 h (l++l')=H4 (H4 h l) l':=by unfold H4;rw[List.foldl_append]
theorem Ix {l:List Ty} {i:Nat} (h:i<l.length):Bb (l.take (i+1))=Bb (l.take i)++Cq l[i]:=by
 rw[List.take_succ_eq_append_getElem h,N7];simp[Bb]
theorem Kr (l:List Ty) (i:Nat):Bb l=Bb (l.take i)++Bb (l.drop i):=by
 rw[<-N7,List.take_append_drop]
theorem Z5 {K:Nat->Prop} {w0 w:World} {v:Value} {ts:List Ty} {g:Nat} {h:Kinds} (hk:KB w g h) (ho:OutT K w0 w v ts):v.ownBlock≠some g:=by
 intro e;obtain⟨vs,h1,_⟩:=ho;obtain⟨c,hc⟩:=Jfk h1 e;rw[hk] at hc;injection hc with hc
 injection hc with _ hc
 exact absurd hc (by decide)
def Tt (l:List Ty):Prop:=∀ (K:Nat->Prop) (w0 w:World) (A:Option Addr) (c:Nat) (v:Value) (os:List Ty) (g:Nat) (h:Kinds),ListT K w0 l A c->Below w0.heap.size w0 w->w0.heap.size<=g->KB w g h->OutT K w0 w v os->os.length+(Bb l).length<=1099511627776 ->
 Calls Tryz.prog 98 #[v,.slice A l.length c,.pointer (some ⟨g,0,none⟩)] w fun e w'=>∃ v',e=.returned v'/\OutT K w0 w' v' (os++Bb l)/\KB w' g (H4 h (Bb l))/\Below w0.heap.size w0 w'
theorem Jap {K:Nat->Prop} {w0 w2 w5:World} {v v5:Value} {os:List Ty} {t:Ty} {g:Nat} {h:Kinds} {cs vs:List Value} (hK:KB w2 g h) (hb:Below w0.heap.size w0 w2) (ho:w2.ownsRow w0.heap.size 26 6 v os.length vs) (hr:∀ i (h:i<os.length),∃ cs,RepT K w0 os[i] cs/\∀ j u,cs[j]?=some u->vs[i*6+j]?=some u)
  (ht:RepT K w0 t cs) (hown:w5.ownsRow w0.heap.size 26 6 v5 (os.length+1) (vs++cs)) (hg:(w2.alloc (.cells cs.toArray 26)).grownBy w5 v.ownBlock) :
  OutT K w0 w5 v5 (os++[t])/\KB w5 g h/\Below w0.heap.size w0 w5:=by
 have hgl:g<w2.heap.size:=(Array.getElem?_eq_some_iff.1 hK).1;have hne:=Z5 hK ⟨vs,ho,hr⟩;have hl1:w2.heap.size<=(w2.alloc (.cells cs.toArray 26)).heap.size:=by simp
 refine⟨OutT.snoc (ho.1) hr ht hown,?_,(hb.alloc hb.size _).grown hg (Nat.le_trans hb.size hl1) fun k hk=>(ho.lt k hk).1⟩;unfold KB;rw[hg.block g (by omega) (fun e=>hne e.symm),Below.heap_alloc _ _ _ hgl];exact hK
structure Shp where
 t:Bool
 n:Bool
 f:Bool
 v:Bool
 lo:Int
 hi:Int
 known:Bool
def Ae (k:Int):Shp:=
 if 1<=k/\k<=8 then ⟨false,false,false,false,0,0,true⟩ else if k=9 then ⟨false,true,false,false,0,0,true⟩ else if k=10\/k=16\/k=22 then ⟨true,false,false,false,0,0,true⟩
 else if k=11\/k=18 then ⟨false,false,false,false,1,1,true⟩ else if k=12 then ⟨false,false,false,false,0,-1,true⟩ else if k=13 then ⟨false,false,false,true,1,-1,true⟩
 else if k=14 then ⟨false,false,true,false,0,0,true⟩ else if k=15\/k=23 then ⟨false,false,false,false,2,-1,true⟩ else if k=17 then ⟨true,false,false,false,0,-1,true⟩
 else if k=19 then ⟨false,false,false,false,2,2,true⟩ else if k=20 then ⟨true,true,false,false,2,2,true⟩ else if k=21 then ⟨true,true,false,false,4,4,true⟩ else ⟨false,false,false,false,0,0,false⟩
def Cc (s:Shp):Value:=.agg #[.bool s.t,.bool s.n,.bool s.f,.bool s.v,.int .i64 s.lo,.int .i64 s.hi]
theorem Jdp (w:World):Calls Tryz.prog 94 #[.int .i64 1] w fun e w'=>e=.returned (.tuple #[Cc (Ae 1),.bool (Ae 1).known])/\Below w.heap.size w w':=by
 go_enter Tryz.func94,Tryz.ntmps94;go_wp2_with fail;exact bodyPost_ret (v:=.tuple #[Cc (Ae 1),.bool (Ae 1).known]) (by simp[results,Tryz.results94,go_sem,Cc,Ae]) rfl ⟨rfl,(Below.refl _ _).alloc (Nat.le_refl _) _⟩
theorem Jdq (w:World):Calls Tryz.prog 94 #[.int .i64 2] w fun e w'=>e=.returned (.tuple #[Cc (Ae 2),.bool (Ae 2).known])/\Below w.heap.size w w':=by
 go_enter Tryz.func94,Tryz.ntmps94;go_wp2_with fail;exact bodyPost_ret (v:=.tuple #[Cc (Ae 2),.bool (Ae 2).known]) (by simp[results,Tryz.results94,go_sem,Cc,Ae]) rfl ⟨rfl,(Below.refl _ _).alloc (Nat.le_refl _) _⟩
theorem Jdr (w:World):Calls Tryz.prog 94 #[.int .i64 3] w fun e w'=>e=.returned (.tuple #[Cc (Ae 3),.bool (Ae 3).known])/\Below w.heap.size w w':=by
 go_enter Tryz.func94,Tryz.ntmps94;go_wp2_with fail;exact bodyPost_ret (v:=.tuple #[Cc (Ae 3),.bool (Ae 3).known]) (by simp[results,Tryz.results94,go_sem,Cc,Ae]) rfl ⟨rfl,(Below.refl _ _).alloc (Nat.le_refl _) _⟩
theorem Jds (w:World):Calls Tryz.prog 94 #[.int .i64 4] w fun e w'=>e=.returned (.tuple #[Cc (Ae 4),.bool (Ae 4).known])/\Below w.heap.size w w':=by
 go_enter Tryz.func94,Tryz.ntmps94;go_wp2_with fail;exact bodyPost_ret (v:=.tuple #[Cc (Ae 4),.bool (Ae 4).known]) (by simp[results,Tryz.results94,go_sem,Cc,Ae]) rfl ⟨rfl,(Below.refl _ _).alloc (Nat.le_refl _) _⟩
theorem Jdt (w:World):Calls Tryz.prog 94 #[.int .i64 5] w fun e w'=>e=.returned (.tuple #[Cc (Ae 5),.bool (Ae 5).known])/\Below w.heap.size w w':=by
 go_enter Tryz.func94,Tryz.ntmps94;go_wp2_with fail;exact bodyPost_ret (v:=.tuple #[Cc (Ae 5),.bool (Ae 5).known]) (by simp[results,Tryz.results94,go_sem,Cc,Ae]) rfl ⟨rfl,(Below.refl _ _).alloc (Nat.le_refl _) _⟩
theorem Jdu (w:World):Calls Tryz.prog 94 #[.int .i64 6] w fun e w'=>e=.returned (.tuple #[Cc (Ae 6),.bool (Ae 6).known])/\Below w.heap.size w w':=by
 go_enter Tryz.func94,Tryz.ntmps94;go_wp2_with fail;exact bodyPost_ret (v:=.tuple #[Cc (Ae 6),.bool (Ae 6).known]) (by simp[results,Tryz.results94,go_sem,Cc,Ae]) rfl ⟨rfl,(Below.refl _ _).alloc (Nat.le_refl _) _⟩
theorem Jdv (w:World):Calls Tryz.prog 94 #[.int .i64 7] w fun e w'=>e=.returned (.tuple #[Cc (Ae 7),.bool (Ae 7).known])/\Below w.heap.size w w':=by
 go_enter Tryz.func94,Tryz.ntmps94;go_wp2_with fail;exact bodyPost_ret (v:=.tuple #[Cc (Ae 7),.bool (Ae 7).known]) (by simp[results,Tryz.results94,go_sem,Cc,Ae]) rfl ⟨rfl,(Below.refl _ _).alloc (Nat.le_refl _) _⟩
theorem Jdw (w:World):Calls Tryz.prog 94 #[.int .i64 8] w fun e w'=>e=.returned (.tuple #[Cc (Ae 8),.bool (Ae 8).known])/\Below w.heap.size w w':=by
 go_enter Tryz.func94,Tryz.ntmps94;go_wp2_with fail;exact bodyPost_ret (v:=.tuple #[Cc (Ae 8),.bool (Ae 8).known]) (by simp[results,Tryz.results94,go_sem,Cc,Ae]) rfl ⟨rfl,(Below.refl _ _).alloc (Nat.le_refl _) _⟩
theorem Jdx (w:World):Calls Tryz.prog 94 #[.int .i64 9] w fun e w'=>e=.returned (.tuple #[Cc (Ae 9),.bool (Ae 9).known])/\Below w.heap.size w w':=by
 go_enter Tryz.func94,Tryz.ntmps94;go_wp2_with fail;exact bodyPost_ret (v:=.tuple #[Cc (Ae 9),.bool (Ae 9).known]) (by simp[results,Tryz.results94,go_sem,Cc,Ae]) rfl ⟨rfl,(Below.refl _ _).alloc (Nat.le_refl _) _⟩
theorem Jaw (w:World):Calls Tryz.prog 94 #[.int .i64 10] w fun e w'=>e=.returned (.tuple #[Cc (Ae 10),.bool (Ae 10).known])/\Below w.heap.size w w':=by
 go_enter Tryz.func94,Tryz.ntmps94;go_wp2_with fail;exact bodyPost_ret (v:=.tuple #[Cc (Ae 10),.bool (Ae 10).known]) (by simp[results,Tryz.results94,go_sem,Cc,Ae]) rfl ⟨rfl,(Below.refl _ _).alloc (Nat.le_refl _) _⟩
theorem Jax (w:World):Calls Tryz.prog 94 #[.int .i64 11] w fun e w'=>e=.returned (.tuple #[Cc (Ae 11),.bool (Ae 11).known])/\Below w.heap.size w w':=by
 go_enter Tryz.func94,Tryz.ntmps94;go_wp2_with fail;exact bodyPost_ret (v:=.tuple #[Cc (Ae 11),.bool (Ae 11).known]) (by simp[results,Tryz.results94,go_sem,Cc,Ae]) rfl ⟨rfl,(Below.refl _ _).alloc (Nat.le_refl _) _⟩
theorem Jay (w:World):Calls Tryz.prog 94 #[.int .i64 12] w fun e w'=>e=.returned (.tuple #[Cc (Ae 12),.bool (Ae 12).known])/\Below w.heap.size w w':=by
 go_enter Tryz.func94,Tryz.ntmps94;go_wp2_with fail;exact bodyPost_ret (v:=.tuple #[Cc (Ae 12),.bool (Ae 12).known]) (by simp[results,Tryz.results94,go_sem,Cc,Ae]) rfl ⟨rfl,(Below.refl _ _).alloc (Nat.le_refl _) _⟩
theorem Jaz (w:World):Calls Tryz.prog 94 #[.int .i64 13] w fun e w'=>e=.returned (.tuple #[Cc (Ae 13),.bool (Ae 13).known])/\Below w.heap.size w w':=by
 go_enter Tryz.func94,Tryz.ntmps94;go_wp2_with fail;exact bodyPost_ret (v:=.tuple #[Cc (Ae 13),.bool (Ae 13).known]) (by simp[results,Tryz.results94,go_sem,Cc,Ae]) rfl ⟨rfl,(Below.refl _ _).alloc (Nat.le_refl _) _⟩
theorem Ja0 (w:World):Calls Tryz.prog 94 #[.int .i64 14] w fun e w'=>e=.returned (.tuple #[Cc (Ae 14),.bool (Ae 14).known])/\Below w.heap.size w w':=by
 go_enter Tryz.func94,Tryz.ntmps94;go_wp2_with fail;exact bodyPost_ret (v:=.tuple #[Cc (Ae 14),.bool (Ae 14).known]) (by simp[results,Tryz.results94,go_sem,Cc,Ae]) rfl ⟨rfl,(Below.refl _ _).alloc (Nat.le_refl _) _⟩
theorem Ja1 (w:World):Calls Tryz.prog 94 #[.int .i64 15] w fun e w'=>e=.returned (.tuple #[Cc (Ae 15),.bool (Ae 15).known])/\Below w.heap.size w w':=by
 go_enter Tryz.func94,Tryz.ntmps94;go_wp2_with fail;exact bodyPost_ret (v:=.tuple #[Cc (Ae 15),.bool (Ae 15).known]) (by simp[results,Tryz.results94,go_sem,Cc,Ae]) rfl ⟨rfl,(Below.refl _ _).alloc (Nat.le_refl _) _⟩
theorem Ja2 (w:World):Calls Tryz.prog 94 #[.int .i64 16] w fun e w'=>e=.returned (.tuple #[Cc (Ae 16),.bool (Ae 16).known])/\Below w.heap.size w w':=by
 go_enter Tryz.func94,Tryz.ntmps94;go_wp2_with fail;exact bodyPost_ret (v:=.tuple #[Cc (Ae 16),.bool (Ae 16).known]) (by simp[results,Tryz.results94,go_sem,Cc,Ae]) rfl ⟨rfl,(Below.refl _ _).alloc (Nat.le_refl _) _⟩
theorem Ja3 (w:World):Calls Tryz.prog 94 #[.int .i64 17] w fun e w'=>e=.returned (.tuple #[Cc (Ae 17),.bool (Ae 17).known])/\Below w.heap.size w w':=by
 go_enter Tryz.func94,Tryz.ntmps94;go_wp2_with fail;exact bodyPost_ret (v:=.tuple #[Cc (Ae 17),.bool (Ae 17).known]) (by simp[results,Tryz.results94,go_sem,Cc,Ae]) rfl ⟨rfl,(Below.refl _ _).alloc (Nat.le_refl _) _⟩
theorem Ja4 (w:World):Calls Tryz.prog 94 #[.int .i64 18] w fun e w'=>e=.returned (.tuple #[Cc (Ae 18),.bool (Ae 18).known])/\Below w.heap.size w w':=by
 go_enter Tryz.func94,Tryz.ntmps94;go_wp2_with fail;exact bodyPost_ret (v:=.tuple #[Cc (Ae 18),.bool (Ae 18).known]) (by simp[results,Tryz.results94,go_sem,Cc,Ae]) rfl ⟨rfl,(Below.refl _ _).alloc (Nat.le_refl _) _⟩
theorem Ja5 (w:World):Calls Tryz.prog 94 #[.int .i64 19] w fun e w'=>e=.returned (.tuple #[Cc (Ae 19),.bool (Ae 19).known])/\Below w.heap.size w w':=by
 go_enter Tryz.func94,Tryz.ntmps94;go_wp2_with fail;exact bodyPost_ret (v:=.tuple #[Cc (Ae 19),.bool (Ae 19).known]) (by simp[results,Tryz.results94,go_sem,Cc,Ae]) rfl ⟨rfl,(Below.refl _ _).alloc (Nat.le_refl _) _⟩
theorem Ja6 (w:World):Calls Tryz.prog 94 #[.int .i64 20] w fun e w'=>e=.returned (.tuple #[Cc (Ae 20),.bool (Ae 20).known])/\Below w.heap.size w w':=by
 go_enter Tryz.func94,Tryz.ntmps94;go_wp2_with fail;exact bodyPost_ret (v:=.tuple #[Cc (Ae 20),.bool (Ae 20).known]) (by simp[results,Tryz.results94,go_sem,Cc,Ae]) rfl ⟨rfl,(Below.refl _ _).alloc (Nat.le_refl _) _⟩
theorem Ja7 (w:World):Calls Tryz.prog 94 #[.int .i64 21] w fun e w'=>e=.returned (.tuple #[Cc (Ae 21),.bool (Ae 21).known])/\Below w.heap.size w w':=by
 go_enter Tryz.func94,Tryz.ntmps94;go_wp2_with fail;exact bodyPost_ret (v:=.tuple #[Cc (Ae 21),.bool (Ae 21).known]) (by simp[results,Tryz.results94,go_sem,Cc,Ae]) rfl ⟨rfl,(Below.refl _ _).alloc (Nat.le_refl _) _⟩
theorem Ja8 (w:World):Calls Tryz.prog 94 #[.int .i64 22] w fun e w'=>e=.returned (.tuple #[Cc (Ae 22),.bool (Ae 22).known])/\Below w.heap.size w w':=by
 go_enter Tryz.func94,Tryz.ntmps94;go_wp2_with fail;exact bodyPost_ret (v:=.tuple #[Cc (Ae 22),.bool (Ae 22).known]) (by simp[results,Tryz.results94,go_sem,Cc,Ae]) rfl ⟨rfl,(Below.refl _ _).alloc (Nat.le_refl _) _⟩
theorem Ja9 (w:World):Calls Tryz.prog 94 #[.int .i64 23] w fun e w'=>e=.returned (.tuple #[Cc (Ae 23),.bool (Ae 23).known])/\Below w.heap.size w w':=by
 go_enter Tryz.func94,Tryz.ntmps94;go_wp2_with fail;exact bodyPost_ret (v:=.tuple #[Cc (Ae 23),.bool (Ae 23).known]) (by simp[results,Tryz.results94,go_sem,Cc,Ae]) rfl ⟨rfl,(Below.refl _ _).alloc (Nat.le_refl _) _⟩
theorem Jbb (k:Int) (w:World) (hk:k<1\/23<k):Calls Tryz.prog 94 #[.int .i64 k] w fun e w'=>e=.returned (.tuple #[Cc (Ae k),.bool (Ae k).known])/\Below w.heap.size w w':=by
 have HS:Hid (Ae k=⟨false,false,false,false,0,0,false⟩):=Hd (by
  unfold Ae
  repeat rw[if_neg (by omega)])
 have t1:(k == 1)=false:=by rw[beq_eq_false_iff_ne];omega
 have t2:(k == 2)=false:=by rw[beq_eq_false_iff_ne];omega
 have t3:(k == 3)=false:=by rw[beq_eq_false_iff_ne];omega
 have t4:(k == 4)=false:=by rw[beq_eq_false_iff_ne];omega
 have t5:(k == 5)=false:=by rw[beq_eq_false_iff_ne];omega
 have t6:(k == 6)=false:=by rw[beq_eq_false_iff_ne];omega
 have t7:(k == 7)=false:=by rw[beq_eq_false_iff_ne];omega
 have t8:(k == 8)=false:=by rw[beq_eq_false_iff_ne];omega
 have t9:(k == 9)=false:=by rw[beq_eq_false_iff_ne];omega
 have t10:(k == 10)=false:=by rw[beq_eq_false_iff_ne];omega
 have t11:(k == 11)=false:=by rw[beq_eq_false_iff_ne];omega
 have t12:(k == 12)=false:=by rw[beq_eq_false_iff_ne];omega
 have t13:(k == 13)=false:=by rw[beq_eq_false_iff_ne];omega
 have t14:(k == 14)=false:=by rw[beq_eq_false_iff_ne];omega
 have t15:(k == 15)=false:=by rw[beq_eq_false_iff_ne];omega
 have t16:(k == 16)=false:=by rw[beq_eq_false_iff_ne];omega
 have t17:(k == 17)=false:=by rw[beq_eq_false_iff_ne];omega
 have t18:(k == 18)=false:=by rw[beq_eq_false_iff_ne];omega
 have t19:(k == 19)=false:=by rw[beq_eq_false_iff_ne];omega
 have t20:(k == 20)=false:=by rw[beq_eq_false_iff_ne];omega
 have t21:(k == 21)=false:=by rw[beq_eq_false_iff_ne];omega
 have t22:(k == 22)=false:=by rw[beq_eq_false_iff_ne];omega
 have t23:(k == 23)=false:=by rw[beq_eq_false_iff_ne];omega
 rw[HS.out];clear hk;go_enter Tryz.func94,Tryz.ntmps94;go_wp2_with fail;exact bodyPost_ret (v:=.tuple #[Cc ⟨false,false,false,false,0,0,false⟩,.bool false]) (by simp[results,Tryz.results94,go_sem,Cc]) rfl ⟨rfl,(Below.refl _ _).alloc (Nat.le_refl _) _⟩
theorem W5 (k:Int) (w:World):Calls Tryz.prog 94 #[.int .i64 k] w fun e w'=>e=.returned (.tuple #[Cc (Ae k),.bool (Ae k).known])/\Below w.heap.size w w':=by
 by_cases h:k<1\/23<k
 ·exact Jbb k w h
 ·have:k=1\/k=2\/k=3\/k=4\/k=5\/k=6\/k=7\/k=8\/k=9\/k=10\/k=11\/k=12\/k=13\/k=14\/k=15\/k=16\/k=17\/k=18\/k=19\/k=20\/k=21\/k=22\/k=23:=by omega
  rcases this with rfl | rfl | rfl | rfl | rfl | rfl | rfl | rfl | rfl | rfl | rfl | rfl | rfl | rfl | rfl | rfl | rfl | rfl | rfl | rfl | rfl | rfl | rfl
  ·exact Jdp w
  ·exact Jdq w
  ·exact Jdr w
  ·exact Jds w
  ·exact Jdt w
  ·exact Jdu w
  ·exact Jdv w
  ·exact Jdw w
  ·exact Jdx w
  ·exact Jaw w
  ·exact Jax w
  ·exact Jay w
  ·exact Jaz w
  ·exact Ja0 w
  ·exact Ja1 w
  ·exact Ja2 w
  ·exact Ja3 w
  ·exact Ja4 w
  ·exact Ja5 w
  ·exact Ja6 w
  ·exact Ja7 w
  ·exact Ja8 w
  ·exact Ja9 w
theorem N9 (l:List Ty) (hp:∀ p∈l,Tt p.ps):Tt l:=by
 intro K w0 w A c v os g h hL hb hg hK hO hbd;have hll:=hL.short;have HL:=Hd hL;have HP:=Hd hp;have HG:=Hd hg;have HBD:=Hd hbd;have HS0:Hid (OutT K w0 w v os/\KB w g h/\Below w0.heap.size w0 w):=Hd ⟨hO,hK,hb⟩;obtain⟨i0,hi0,hz0,hz1,hz2⟩:=D4 Hh;obtain⟨vs0,hvs0,-⟩:=hO;obtain⟨A0,c0,rfl,-⟩:=Gk hvs0;obtain⟨n0,hn0⟩:∃ n0,n0=os.length:=⟨_,rfl⟩;rw[<-hn0] at HS0 hvs0 ⊢;have HN0:=Hd hn0;clear hL hp hg hbd hb hK hvs0 hn0;go_enter Tryz.func98,Tryz.ntmps98;go_wp2_with fail
 go_loopw [0,10] (fun ov v wr=>∃ (i:Nat) (acc:List Ty),i<=l.length/\v=.int .i64 i/\acc=os++Bb (l.take i)/\OutT K w0 wr ov acc/\KB wr g (H4 h (Bb (l.take i)))/\Below w0.heap.size w0 wr) (fun _ v _=>l.length - (intOf v).toNat)
 case atStart=>exact⟨0,os,by omega,rfl,by simp[Bb],HS0.out.1,by simpa [Bb,H4] using HS0.out.2.1,HS0.out.2.2⟩
 case round=>
  obtain⟨i,acc,hi,rfl,hacc,ho,hk,hb⟩:=hrel;have HAcc:=Hd hacc;clear hacc;have HR:=Hd (And.intro ho (And.intro hk hb));obtain⟨vs,hvs,hrs⟩:=ho;obtain⟨A1,c1,rfl,-⟩:=Gk hvs;by_cases hin:i<l.length
  ·have t1:decide ((i:Int)<(l.length:Int))=true:=by simp;omega
   have wr2:wrap64 ((i:Int)+1)=((i+1:Nat):Int):=Ao (by omega);obtain⟨b,o,hA,_,hat⟩:=HL.out.at (by omega);have hti:=hat i hin;have hpi:=HP.out _ (List.getElem_mem hin);have htk:=Ix hin;have hsp:=Kr l (i+1);subst hA;generalize l[i]=t at hti hpi htk;obtain⟨k,s,n,ps,fs,ws⟩:=t;obtain⟨cs,hcs,hrep⟩:=hti;obtain⟨Ap,cp,Af,cf,Av,cv,rfl,-,hLp,-,-⟩:=hrep.inv;have HREP:=Hd hrep;have x0:wr.cell? ⟨b,o+i*6,none⟩=some (.int .i64 k):=Aa hb (hcs 0 _ rfl);have x3:=Aa hb (hcs 3 _ rfl);have HCS:=Hd hcs;have HIn:=Hd hin;have HTk:=Hd htk;have HOw:=Hd (And.intro hvs hrs);have HLen:Hid (acc.length+(Cq (.mk k s n ps fs ws)).length<=1099511627776):=Hd (by
    have h1:=HBD.out;rw[hsp,htk] at h1;rw[HAcc.out];simp only[List.length_append] at h1 ⊢;omega)
   have hbl:b<w0.heap.size:=World.block_lt_of_cell? _ _ (hcs 0 _ rfl);have HBl:=Hd hbl;by_cases h15:k=15
   ·subst h15;have KF:=Hd (hpi K w0 wr Ap cp _ _ g _ hLp hb HG.out hk HR.out.1 (by have:=HLen.out;rw[Ck,if_pos rfl] at this;exact this));simp only[Ty.ps] at KF;clear hpi htk hsp hcs hrep hLp hvs hrs hk hb hi hbl;go_wp2_with fail;refine KF.out.mono ?_;rintro e w2 ⟨v2,rfl,ho2,hk2,hb2⟩;have HR2:=Hd (And.intro ho2 (And.intro hk2 hb2));clear ho2 hk2 hb2 KF;go_wp2_with fail;refine⟨⟨i+1,_,HIn.out,by first | rfl | rw[wr2],?p1,HR2.out.1,?p2,HR2.out.2.2⟩,?p3⟩
    case p1=>rw[HTk.out,HAcc.out,Ck,if_pos rfl,List.append_assoc]
    case p2=>rw[HTk.out,M5,Ck,if_pos rfl];exact HR2.out.2.1
    case p3=>first | exact Ba HIn.out | exact Ed HIn.out | (rw[wr2];exact Ba HIn.out)
   ·have t15:(k == 15)=false:=(by simpa using h15);have KS:=Hd (Uz hk x0);clear hpi htk hsp hcs hrep hLp hvs hrs hi hbl hk;go_wp2_with fail;refine KS.out.mono ?_;rintro e w2 ⟨rfl,hk2,hs2⟩;have hb2:=hs2.below hb HG.out;have HR2:=Hd (And.intro hk2 hb2);have HOw2:Hid (w2.ownsRow w0.heap.size 26 6 (.slice A1 acc.length c1) acc.length vs):=Hd (by
     have hne:=Z5 HR.out.2.1 HR.out.1;refine⟨HOw.out.1.1,?_⟩;rcases HOw.out.1.2 with h3 | ⟨g1,cap,cur,hv,hg1,hh,r⟩
     ·exact .inl h3
     ·exact .inr ⟨g1,cap,cur,hv,hg1,by rw[hs2.block (fun e=>hne (by rw[hv,<-e];rfl))];exact hh,r⟩)
    have y0:w2.cell? ⟨b,o+i*6,none⟩=some (.int .i64 k):=Aa hb2 (HCS.out 0 _ rfl);have y1:=Aa hb2 (HCS.out 1 _ rfl);have y2:=Aa hb2 (HCS.out 2 _ rfl);have y3:=Aa hb2 (HCS.out 3 _ rfl);have y4:=Aa hb2 (HCS.out 4 _ rfl);have y5:=Aa hb2 (HCS.out 5 _ rfl);have HC2:=Hd (Dn w2 [.int .i64 k,.string s,.int .i64 n,.slice Ap ps.length cp,.slice Af fs.length cf,.slice Av ws.length cv] 26);have HL1:Hid (acc.length+1<=1099511627776):=Hd (by have:=HLen.out;rw[Ck,if_neg h15] at this;simpa using this);clear hb hk2 hs2 hb2 KS x0 x3;go_wp2_with (at_builtin;refine wpList_plain rfl fun K hK=>?_;go_loud (refine Bz _ _ 22 rfl w0.heap.size 26 i0 (.agg #[.int .i64 0,.string ⟨#[]⟩,.int .i64 0,.slice none 0 0,.slice none 0 0,.slice none 0 0]) 6 104 Tryz.underlying22 hi0 hz0 hz1 hz2 rfl (by decide) _ _ _ rfl (HOw2.out.alloc _) ⟨w2.heap.size,0,none⟩ 1 1 [.int .i64 k,.string s,.int .i64 n,.slice Ap ps.length cp,.slice Af fs.length cf,.slice Av ws.length cv] rfl rfl ?a0 ?a1 ?a2 ?a3 ?a4 ?_))
    case a0=>exact HC2.out
    case a1=>
     intro u hu;simp only[List.mem_cons,List.not_mem_nil,or_false] at hu;rcases hu with rfl | rfl | rfl | rfl | rfl | rfl <;> rfl
    case a2=>have:=HL1.out;unfold maxLen;omega
    case a3=>have:=HL1.out;omega
    case a4=>have:=HR2.out.2.size;simp only[World.size_alloc];omega
    intro v5 w5 hown5 hg5 _ _;refine hK _ _ ?_;clear hK K;have hP5:=Jap HR2.out.1 HR2.out.2 HOw2.out HOw.out.2 HREP.out hown5 hg5;have HR5:=Hd hP5;clear hown5 hg5 hP5 y0 y1 y2 y3 y4 y5;go_wp2_with fail;refine⟨⟨i+1,_,HIn.out,by first | rfl | rw[wr2],?p1,HR5.out.1,?p2,HR5.out.2.2⟩,?p3⟩
    case p1=>rw[HTk.out,HAcc.out,Ck,if_neg h15,List.append_assoc]
    case p2=>rw[HTk.out,M5,Ck,if_neg h15];exact HR5.out.2.1
    case p3=>first | exact Ba HIn.out | exact Ed HIn.out | (rw[wr2];exact Ba HIn.out)
  ·have t1:decide ((i:Int)<(l.length:Int))=false:=by simp;omega
   have HE:Hid (l.take i=l):=Hd (List.take_of_length_le (by omega));clear hi hvs hrs hk hb;go_wp2_with fail;go_ret
   have h1:=HR.out;have h2:=HAcc.out;rw[HE.out] at h1 h2;rw[<-h2];exact⟨.slice A1 acc.length c1,rfl,h1.1,h1.2.1,h1.2.2⟩
theorem Yj (l:List Ty):Tt l:=N9 l fun p _=>Ty.ind (C:=fun t=>Tt t.ps) (fun _ _ _ ps _ _ hp _ _=>N9 ps hp) p
structure InT (K:Nat->Prop) (w0 w:World) (g c:Nat) (ts:List Ty):Prop where
 le:ts.length<=c
 mx:c<=maxLen
 blk:∃ cur,w.heap[g]?=some (.cells cur 26 (0,0))/\cur.size=c*6
 reps:∀ (i:Nat) (t:Ty),ts[i]?=some t->∃ cs,RepT K w0 t cs/\∀ (j:Nat) (u:Value),cs[j]?=some u->w.cell? ⟨g,i*6+j,none⟩=some u
theorem InT.lt {K:Nat->Prop} {w0 w:World} {g c:Nat} {ts:List Ty} (h:InT K w0 w g c ts):g<w.heap.size:=by
 obtain⟨cur,h1,_⟩:=h.blk;exact (Array.getElem?_eq_some_iff.1 h1).1
theorem InT.there {K:Nat->Prop} {w0 w:World} {g c:Nat} {ts:List Ty} (h:InT K w0 w g c ts) {j:Nat} (hj:j<c*6):(w.cell? ⟨g,j,none⟩).isSome=true/\w.frozen? ⟨g,j,none⟩=false:=by
 obtain⟨cur,h1,h2⟩:=h.blk;refine⟨?_,Lib.frozen_of_heap h1 j⟩;rw[cell_of_row _ _ _ _ _ _ h1,Array.getElem?_eq_getElem (by omega)];rfl
theorem InT.keep {K:Nat->Prop} {w0 w w':World} {g c:Nat} {ts:List Ty} (h:InT K w0 w g c ts) (hk:w'.heap[g]?=w.heap[g]?):InT K w0 w' g c ts:=
 ⟨h.le,h.mx,by rw[hk];exact h.blk,fun i t hi=>by
  obtain⟨cs,h1,h2⟩:=h.reps i t hi;exact⟨cs,h1,fun j u hj=>(World.cell?_of_block (a:=⟨g,i*6+j,none⟩) hk).trans (h2 j u hj)⟩⟩
theorem InT.later {K:Nat->Prop} {w0 w w':World} {g c:Nat} {ts:List Ty} (h:InT K w0 w g c ts) (hb:Below w.heap.size w w'):InT K w0 w' g c ts:=h.keep (hb.block g h.lt)
theorem InT.of_out {K:Nat->Prop} {w0 w:World} {v:Value} {ts:List Ty} (h:OutT K w0 w v ts):(v=.slice none 0 0/\ts=[])\/∃ g c,v=.slice (some ⟨g,0,none⟩) ts.length c/\w0.heap.size<=g/\InT K w0 w g c ts:=by
 obtain⟨vs,⟨h1,h2⟩,h3⟩:=h;rcases h2 with ⟨hv,hn⟩ | ⟨g,cap,cur,hv,hg,hh,hc,hm,hs,ht⟩
 ·exact .inl ⟨hv,List.eq_nil_of_length_eq_zero hn⟩
 ·refine .inr ⟨g,cap,hv,hg,hc,hm,⟨cur,hh,hs⟩,fun i t hi=>?_⟩;obtain⟨hlt,rfl⟩:=List.getElem?_eq_some_iff.1 hi;obtain⟨cs,h4,h5⟩:=h3 i hlt;refine⟨cs,h4,fun j u hj=>?_⟩;have h6:=h5 j u hj;rw[cell_of_row _ _ _ _ _ _ hh];rw[<-ht,List.getElem?_take] at h6
  split at h6
  ·simpa using h6
  ·cases h6
theorem Pv (g:Nat) {T:TypeId}:∀ (vs:List Value) (o:Nat) (w:World),(∃ cur n,w.heap[g]?=some (.cells cur T (0,0))/\cur.size=n)->∀ n,(∃ cur,w.heap[g]?=some (.cells cur T (0,0))/\cur.size=n)->∃ cur,(w.setCells g o vs).heap[g]?=some (.cells cur T (0,0))/\cur.size=n
 | [],_,_,_,_,h=>h
 | v :: vs,o,w,hx,n,⟨cur,h1,h2⟩=>by
  have h3:=Go.heap_setCell_same w g o _ _ v h1;exact Pv g vs (o+1) _ ⟨_,_,h3,rfl⟩ n ⟨_,h3,by rw[Array.size_setIfInBounds];exact h2⟩
theorem InT.put {K:Nat->Prop} {w0 w:World} {g c:Nat} {F ts:List Ty} {t:Ty} {cs:List Value} (h:InT K w0 w g c (F++ts.drop F.length)) (hF:F.length<ts.length) (ht:RepT K w0 t cs) :
  InT K w0 (w.setCells g (F.length*6) cs) g c ((F++[t])++ts.drop (F++[t]).length):=by
 have h6:=ht.six;have hle:=h.le;simp only[List.length_append,List.length_drop] at hle;have hin:∀ j,j<cs.length->(w.cell? ⟨g,F.length*6+j,none⟩).isSome=true:=fun j hj=>(h.there (by omega)).1;obtain⟨cur,hc1,hc2⟩:=h.blk;refine⟨by simp;omega,h.mx,Pv g cs _ w ⟨_,_,hc1,rfl⟩ _ ⟨_,hc1,hc2⟩,fun i x hi=>?_⟩;have hout:i≠F.length->(F++ts.drop F.length)[i]?=some x->∃ cs',RepT K w0 x cs'/\∀ (j:Nat) (u:Value),cs'[j]?=some u->(w.setCells g (F.length*6) cs).cell? ⟨g,i*6+j,none⟩=some u:=by
  intro hne hx;obtain⟨cs',h1,h2⟩:=h.reps i x hx;refine⟨cs',h1,fun j u hj=>?_⟩;have hj6:=(List.getElem?_eq_some_iff.1 hj).1;rw[h1.six] at hj6;rw[World.cell?_setCells_out g cs _ w ⟨g,i*6+j,none⟩ (fun _ _=>by show i*6+j<_\/_<=i*6+j;omega)];exact h2 j u hj
 rw[List.length_append,List.length_singleton] at hi;rcases Nat.lt_trichotomy i F.length with hlt | heq | hgt
 ·refine hout (by omega) ?_;rw[List.append_assoc,List.getElem?_append_left hlt] at hi;rw[List.getElem?_append_left hlt];exact hi
 ·subst heq;rw[List.append_assoc,List.getElem?_append_right (Nat.le_refl _),Nat.sub_self] at hi;injection hi with hi
  subst hi;refine⟨cs,ht,fun j u hj=>?_⟩;have hj6:=(List.getElem?_eq_some_iff.1 hj);rw[World.cell?_setCells_in g cs _ w hin j hj6.1,hj6.2]
 ·refine hout (by omega) ?_;rw[List.getElem?_append_right (by simp;omega),List.getElem?_drop] at hi;rw[List.getElem?_append_right (by omega),List.getElem?_drop];rw[<-hi]
  congr 1
  simp;omega
def Bw:List Ty->List Ty
 | []=>[]
 | a :: l=>match l with
  | []=>[a]
  | b :: _=>if Bt a b=0 then Bw l else a :: Bw l
def Wk (l:List Ty):Prop:=l.Pairwise fun a b=>Bt a b<=0
theorem J4 (x:Ty):∀ l,x∈Bw l↔x∈l
 | []=>Iff.rfl
 | [a]=>Iff.rfl
 | a :: b :: l=>by
  rw[Bw];have ih:=J4 x (b :: l)
  split
  ·rename_i h;rw[ih,Di.1 h];simp
  ·rw[List.mem_cons,ih];simp only[List.mem_cons]
theorem Ns:∀ {l},Wk l->Lh (Bw l)
 | [],_=>List.Pairwise.nil
 | [a],_=>by simp[Bw,Lh]
 | a :: b :: l,h=>by
  obtain⟨h1,h2⟩:=List.pairwise_cons.1 h;have ih:=Ns h2;rw[Bw]
  split
  ·exact ih
  ·rename_i h3;have hab:Bt a b = -1:=by
    have:=h1 b (List.mem_cons_self ..);rcases F2 a b with e | e | e
    ·exact e
    ·exact absurd e h3
    ·omega
   refine List.pairwise_cons.2 ⟨fun x hx=>?_,ih⟩;rcases List.mem_cons.1 ((J4 x (b :: l)).1 hx) with rfl | hx2
   ·exact hab
   ·have hbx:=(List.pairwise_cons.1 h2).1 x hx2;rcases F2 b x with e | e | e
    ·exact Ff hab e
    ·rw[<-Di.1 e];exact hab
    ·omega
theorem Tk {l s:List Ty} (hs:Wk s) (hm:∀ x,x∈s↔x∈l):C0 l=Bw s:=G3 (Ns hs) fun x=>(J4 x s).trans (hm x)
end Go.Proofs.YtlpfpehegddcfaaGreatDoor
