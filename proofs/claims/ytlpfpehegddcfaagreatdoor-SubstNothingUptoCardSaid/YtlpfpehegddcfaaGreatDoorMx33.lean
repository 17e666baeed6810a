import Derived.Test.YtlpfpehegddcfaaGreatDoorMx31
import Derived.Test.YtlpfpehegddcfaaGreatDoorRows
namespace Go.Proofs.YtlpfpehegddcfaaGreatDoor
set_option maxRecDepth 100000
set_option maxHeartbeats 64000000
open Go.RowKit
theorem Jdq:(Tryz.prog.info? 62).map (fun i=>(i.zero,i.size,i.bytes))=some (some (.agg #[.string ⟨#[]⟩,.slice none 0 0]),2,40):=by kernel_rfl
theorem Yj (w:World) (a:Option Addr) (l c:Nat):(binOp .eql 24 (.slice a l c) (.slice none 0 0)).run Tryz.prog w=.ok (.bool a.isNone) w:=by
 simp[binOp,run_equal_slice_nil w 24 62 a l c Tryz.underlying24]
theorem Qj (ad:Addr) (n c:Nat) (news:List Value) (w:World) (hn:n<=3518437208780) (hl:news.length=n*2) (h1:∀u∈news,u.oneCell'=true) (h:∀j u,news[j]?=some u->w.cell? (ad.add j)=some u) :
  Calls Tryz.prog 112 #[.slice (some ad) n c] w fun e w'=>∃g c',e=.returned (.slice (some ⟨g,0,none⟩) n c')/\w.heap.size<=g/\g<w'.heap.size/\n<=c'/\w'.ownsRow w.heap.size 62 2 (.slice (some ⟨g,0,none⟩) n c') n news/\Below w.heap.size w w':=by
 obtain⟨i0,hG,hI,hJ,hK⟩:=Eg Jdq;have HS:=Hd h;have HN:=Hd hn;have HL:=Hd hl;have HO:=Hd h1;have hq:=Yj w (some ad) n c;simp only[Option.isNone_some]at hq;clear h hn hl h1;go_enter Tryz.func112,Tryz.ntmps112;have HE:=Hd (World.ownsRow_lit (base:=w.heap.size) (e:=62) (size:=2) w #[] 0 (Nat.le_refl _) (by decide) rfl);go_wp2_with (at_builtin;go_loud (refine wpList_append_own _ rfl _ _ 24 rfl w.heap.size 62 i0 (.agg #[.string ⟨#[]⟩,.slice none 0 0]) 2 40 Tryz.underlying24 hG hI hJ hK rfl (by decide) _ _ _ rfl HE.o ad n c news rfl ?a0 ?a1 ?a2 ?a3 ?a4 ?a5 ?_))
 case a0=>exact HL.o
 case a1=>exact fun j u hj=>Aa ((Below.refl _ _).alloc (Nat.le_refl _) _) (HS.o j u hj)
 case a2=>exact HO.o
 case a3=>exact Nat.le_trans (by have:=HN.o;omega) (by decide:3518437208780<=maxLen)
 case a4=>have:=HN.o;omega
 intro v' w' hB hA hD;obtain⟨g,cap,hv,hE,hF,hH,hC⟩:∃g cap,v'=.slice (some ⟨g,0,none⟩) n cap/\w.heap.size<=g/\g<w'.heap.size/\n<=cap/\w'.ownsRow w.heap.size 62 2 (.slice (some ⟨g,0,none⟩) n cap) n news:=by
  have h2:=hB.2;rcases h2 with ⟨h3,h4⟩|⟨g,cap,cur,h3,h4,h5,h6,_⟩
  ·exact absurd h3 hD
  ·subst h3;exact⟨g,cap,rfl,h4,(Array.getElem?_eq_some_iff.1 h5).1,h6,hB⟩
 subst hv;have hb:Below w.heap.size w w':=((Below.refl w.heap.size w).alloc (Nat.le_refl _) (.cells #[] 62)).grown hA (by simp) (fun k hk=>by simp[Value.ownBlock]at hk;omega);have HB:=Hd hb;have HR:=Hd hC;clear hB hA hD hb hC
 go_wp2
 go_ret
 exact⟨g,cap,rfl,hE,hF,hH,HR.o,HB.o⟩
theorem Ph (w:World) :
  Calls Tryz.prog 112 #[.slice none 0 0] w fun e w'=>e=.returned (.slice none 0 0)/\w=w':=by
 have hq:=Yj w none 0 0;simp only[Option.isNone_none]at hq;go_enter Tryz.func112,Tryz.ntmps112;go_wp2_with fail;go_ret
 exact⟨rfl,rfl⟩
structure P8 (P:Nat->Prop) (w:World) (g:Nat) (l:Bt):Prop where
 lt:g<w.heap.size
 cell:∀y,y<l.length*2->∃v,w.cell? ⟨g,y,none⟩=some v
 free:∀y,w.frozen? ⟨g,y,none⟩=false
 reps:∀i (h:i<l.length),w.cell? ⟨g,i*2,none⟩=some (.string l[i].1)/\l[i].1.size<=1000000000000000/\∃B d,w.cell? ⟨g,i*2+1,none⟩=some (.slice B l[i].2.length d)/\Bk P w l[i].2 B d
theorem P8.weak {P P':Nat->Prop}{w:World}{g:Nat}{l:Bt}(h:P8 P w g l) (hp:∀x,P x->P' x):P8 P' w g l:=
 ⟨h.lt,h.cell,h.free,fun i hi=>by obtain⟨h1,h2,B,d,h3,h4⟩:=h.reps i hi;exact⟨h1,h2,B,d,h3,h4.weak hp⟩⟩
theorem P8.but {P O:Nat->Prop}{w w':World}{g:Nat}{l:Bt}(h:P8 P w g l) (hb:Ad O w w') (hg:¬ O g) (hp:∀x,P x->¬ O x):P8 P w' g l:=
 ⟨Nat.lt_of_lt_of_le h.lt hb.size,fun y hy=>by obtain⟨v,hv⟩:=h.cell y hy;exact⟨v,hb.cell hg hv⟩,fun y=>Jr (hb.block g h.lt hg) (h.free y),
  fun i hi=>by obtain⟨h1,h2,B,d,h3,h4⟩:=h.reps i hi;exact⟨hb.cell hg h1,h2,B,d,hb.cell hg h3,h4.but hb fun x hx=>⟨hp x hx,hx⟩⟩⟩
def Kg (w:World) (g y:Nat) (v0 v1:Value):World:=(w.setCell ⟨g,y,none⟩ v0).setCell ⟨g,y+1,none⟩ v1
theorem Sa {w:World}{g y:Nat}{v0 v1:Value}{p:Addr}(h:p.block≠g\/p.off<y\/y+2<=p.off):(Kg w g y v0 v1).cell? p=w.cell? p:=by
 have hA:∀i,i<2->(⟨g,y+i,none⟩:Addr)≠p:=fun i hi e=>by
  subst e;rcases h with h|h|h
  ·exact h rfl
  ·have h:y+i<y:=h;omega
  ·have h:y+2<=y+i:=h;omega
 unfold Kg;rw[World.cell?_setCell_other _ _ _ _ (hA 1 (by omega)),World.cell?_setCell_other _ _ _ _ (show (⟨g,y,none⟩:Addr)≠p from hA 0 (by omega))]
theorem M2 {O:Nat->Prop}{a w:World}{g y:Nat}{v0 v1:Value}(h:Ad O a w) (hg:O g\/a.heap.size<=g):Ad O a (Kg w g y v0 v1):=
 (h.set (p:=⟨g,y,none⟩) hg v0).set (p:=⟨g,y+1,none⟩) hg v1
theorem Xa {w:World}{g y:Nat}{v0 v1:Value}:(Kg w g y v0 v1).heap.size=w.heap.size:=by
 unfold Kg;simp
theorem P8.set {P:Nat->Prop}{w:World}{g i d:Nat}{l:Bt}{nm:Z8}{b:List Ty}{B:Option Addr}(h:P8 P w g l) (hP:∀x,P x->x≠g) (hi:i<l.length) (hB:nm.size<=1000000000000000) (ht:Bk P w b B d):P8 P (Kg w g (i*2) (.string nm) (.slice B b.length d)) g (l.set i (nm,b)):=by
 have hA:Ad (fun x=>x=g) w (Kg w g (i*2) (.string nm) (.slice B b.length d)):=M2 (Ad.refl _ _) (.inl rfl);refine⟨by rw[Xa];exact h.lt,fun y hy=>?_,fun y=>?_,fun k hk=>?_⟩
 ·rw[List.length_set]at hy;exact Br (Br (h.cell y hy))
 ·unfold Kg;rw[World.frozen?_setCell,World.frozen?_setCell];exact h.free y
 ·rw[List.length_set]at hk;obtain⟨h1,h2,B',d',h3,h4⟩:=h.reps k hk;by_cases e:i=k
  ·subst e;simp only[List.getElem_set_self];refine⟨?_,hB,B,d,?_,ht.but hA fun x hx=>⟨hP x hx,hx⟩⟩
   ·unfold Kg;rw[World.cell?_setCell_other _ _ _ _ (Ew (by omega))];exact F4 (h.cell (i*2) (by omega))
   ·unfold Kg;exact F4 (Br (h.cell (i*2+1) (by omega)))
  ·simp only[List.getElem_set_ne e];refine⟨?_,h2,B',d',?_,h4.but hA fun x hx=>⟨hP x hx,hx⟩⟩
   ·rw[Sa (.inr (by show k*2<i*2\/i*2+2<=k*2;omega))];exact h1
   ·rw[Sa (.inr (by show k*2+1<i*2\/i*2+2<=k*2+1;omega))];exact h3
theorem P8.list {P:Nat->Prop}{w:World}{g c:Nat}{l:Bt}(h:P8 P w g l) (hc:l.length<=c) (hl:l.length<=1000000000000000):Da (fun x=>P x\/x=g) w l (some ⟨g,0,none⟩) c:=
 ⟨g,0,⟨hc,hl,(fun h=>by cases h),fun _=>⟨rfl,.inr rfl⟩⟩,fun i hi=>by
  obtain⟨h1,h2,B,d,h3,h4⟩:=h.reps i hi;exact⟨B,d,by rw[Nat.zero_add];exact h1,by rw[Nat.zero_add];exact h3,h2,h4.weak fun b hb=>.inl hb⟩⟩
theorem Xn {K:Nat->Prop}{w:World}{b o:Nat}{l:Bt}(h:∀i (h:i<l.length),∃B d,w.cell? ⟨b,o+i*2,none⟩=some (.string l[i].1)/\w.cell? ⟨b,o+i*2+1,none⟩=some (.slice B l[i].2.length d)/\l[i].1.size<=1000000000000000/\Bk K w l[i].2 B d) (n:Nat):n<=l.length ->
  ∃news:List Value,news.length=n*2/\(∀j u,news[j]?=some u->w.cell? ⟨b,o+j,none⟩=some u)/\(∀u∈news,u.oneCell'=true)/\∀i (h:i<l.length),i<n->news[i*2]?=some (.string l[i].1)/\∃B d,news[i*2+1]?=some (.slice B l[i].2.length d)/\Bk K w l[i].2 B d:=by
 induction n with
 | zero=>intro _;exact⟨[],rfl,fun j u h=>by simp at h,fun u h=>by simp at h,fun i _ h=>absurd h (by omega)⟩
 | succ n ih=>
  intro hn;obtain⟨news,h1,h2,h3,h4⟩:=ih (by omega);obtain⟨B,d,h5,h6,-,h7⟩:=h n (by omega);refine⟨news++[.string (l[n]'(by omega)).1,.slice B (l[n]'(by omega)).2.length d],by rw[List.length_append,h1];simp;omega,fun j u hj=>?_,fun u hu=>?_,fun i hi hB=>?_⟩
  ·by_cases hA:j<news.length
   ·rw[List.getElem?_append_left hA]at hj;exact h2 j u hj
   ·rw[List.getElem?_append_right (by omega)]at hj;obtain⟨q,hq⟩:∃q,q=j - news.length:=⟨_,rfl⟩;rw[<-hq]at hj;rcases q with _|_|q
    ·obtain rfl:Value.string _=u:=by simpa using hj
     rw[<-h5];congr 2;omega
    ·obtain rfl:Value.slice _ _ _=u:=by simpa using hj
     rw[<-h6];congr 2;omega
    ·simp at hj
  ·rcases List.mem_append.1 hu with hu|hu
   ·exact h3 u hu
   ·rcases List.mem_cons.1 hu with rfl|hu
    ·rfl
    ·rcases List.mem_cons.1 hu with rfl|hu
     ·rfl
     ·cases hu
  ·by_cases hA:i<n
   ·obtain⟨e1,B',d',e2,e3⟩:=h4 i hi hA;have lift:∀j u,news[j]?=some u->(news++[.string (l[n]'(by omega)).1,.slice B (l[n]'(by omega)).2.length d])[j]?=some u:=fun j u hj=>by
     rw[List.getElem?_append_left (List.getElem?_eq_some_iff.1 hj).1];exact hj
    exact⟨lift _ _ e1,B',d',lift _ _ e2,e3⟩
   ·obtain rfl:i=n:=by omega
    refine⟨?_,B,d,?_,h7⟩
    ·rw[List.getElem?_append_right (by omega),show i*2 - news.length=0 from by omega];rfl
    ·rw[List.getElem?_append_right (by omega),show i*2+1 - news.length=1 from by omega];rfl
theorem So {K:Nat->Prop}{w:World}{l:Bt}{A:Option Addr}{c:Nat}(hV:Da K w l A c) (h0:0<l.length) (hn:l.length<=3518437208780) :
  Calls Tryz.prog 112 #[.slice A l.length c] w fun e w'=>∃g c',e=.returned (.slice (some ⟨g,0,none⟩) l.length c')/\w.heap.size<=g/\l.length<=c'/\P8 K w' g l/\Below w.heap.size w w':=by
 obtain⟨b,o,rfl,-,hL⟩:=hV.at h0;obtain⟨news,h1,h2,h3,h4⟩:=Xn hL l.length (Nat.le_refl _);refine (Qj ⟨b,o,none⟩ l.length c news w hn h1 h3 fun j u hj=>?_).mono ?_
 ·have e2:((⟨b,o,none⟩:Addr).add j)=⟨b,o+j,none⟩:=by unfold Addr.add;by_cases h0:j=0 <;> simp[h0]
  rw[e2];exact h2 j u hj
 ·rintro e w' ⟨g,c',rfl,hg,hD,hc,hC,hb⟩;refine⟨g,c',rfl,hg,hc,?_,hb⟩;rcases hC.2 with ⟨hv,hz⟩|⟨g',cap,cur,hv,hB,hh,hH,hE,hI,hF⟩
  ·cases hv
  ·injection hv with hv _ _
   injection hv with hv
   injection hv with hv
   subst hv;have hA:∀y u,news[y]?=some u->w'.cell? ⟨g,y,none⟩=some u:=fun y u hy=>by
    rw[<-hF,List.getElem?_take]at hy
    split at hy
    ·rw[Ch hh];simpa using hy
    ·cases hy
   refine⟨hD,fun y hy=>?_,fun y=>Lib.frozen_of_heap hh y,fun i hi=>?_⟩
   ·have hG:y<news.length:=(by omega);exact⟨news[y],hA y _ (List.getElem?_eq_getElem hG)⟩
   ·obtain⟨e1,B,d,e2,e3⟩:=h4 i hi hi;obtain⟨-,-,-,-,e4,-⟩:=hL i hi;exact⟨hA _ _ e1,e4,B,d,hA _ _ e2,e3.later hb⟩
theorem Qi {K:Nat->Prop}{w:World}{A:Option Addr}{c:Nat}(hV:Da K w [] A c) :
  Calls Tryz.prog 112 #[.slice A 0 c] w fun e w'=>∃A' c',e=.returned (.slice A' 0 c')/\(A'=none->c'=0)/\Below w.heap.size w w':=by
 obtain⟨b,o,hA,-⟩:=hV;rcases A with _|ad
 ·obtain rfl:=hA.none rfl;refine (Ph w).mono ?_;rintro e w' ⟨rfl,rfl⟩;exact⟨none,0,rfl,fun _=>rfl,Below.refl _ _⟩
 ·refine (Qj ad 0 c [] w (by omega) rfl (fun u hu=>by cases hu) fun j u hj=>by simp at hj).mono ?_;rintro e w' ⟨g,c',rfl,-,-,-,-,hb⟩;exact⟨_,c',rfl,(fun h=>by cases h),hb⟩
theorem Nw {K:Nat->Prop}{w:World}{l:List Ty}{A:Option Addr}{c:Nat}(hL:Bk K w l A c) (hn:l.length<=1000000) :
  Calls Tryz.prog 66 #[.slice A l.length c] w fun e w'=>∃A' c',e=.returned (.slice A' l.length c')/\Cs K w w' (.slice A' l.length c') l/\Below w.heap.size w w':=by
 obtain⟨b,o,hA,hC⟩:=hL;rcases A with _|ad
 ·obtain rfl:=hA.none rfl;have hl:l=[]:=List.eq_nil_of_length_eq_zero (by have:=hA.le;omega);subst hl;refine (Jm w).mono ?_;rintro e w' ⟨rfl,rfl⟩;exact⟨none,0,rfl,⟨⟨[],World.ownsRow_nil _ _ _ _,fun i h=>absurd h (by simp)⟩⟩,Below.refl _ _⟩
 ·obtain⟨news,h1,h2,h3,h4⟩:=Kl hC;refine (Md ad l.length c news w hn h1 h3 fun j u hj=>?_).mono ?_
  ·have h0:0<l.length:=by have:=(List.getElem?_eq_some_iff.1 hj).1;omega
   have e:=(hA.some h0).1;injection e with e
   subst e;have e2:((⟨b,o,none⟩:Addr).add j)=⟨b,o+j,none⟩:=by unfold Addr.add;by_cases h0:j=0 <;> simp[h0]
   rw[e2];exact h2 j u hj
  ·rintro e w' ⟨g,c',rfl,-,-,-,hB,hb⟩;exact⟨_,c',rfl,⟨⟨news,hB,h4⟩⟩,hb⟩
def Ua (B:Nat) (w:World) (v:Value) (l:List Z8):Prop:=w.ownsRow B 9 1 v l.length (l.map .string)
theorem P3 {B:Nat}{w:World}{v:Value}{l:List Z8}{s:Z8}{gg:Nat}{o:Oper}{a:Act}{Kc:Act->World->Prop}{Q:Exit->Act->World->Prop}(sl x:Operand)
  (ho:o.op=.call { callee:=.builtin .append,args:=#[sl,x],argTypes:=#[46,46] }) (hs:a.eval sl=v) (hx:a.eval x=.slice (some ⟨gg,0,none⟩) 1 1)
  (hO:Ua B w v l) (hc:w.cell? ⟨gg,0,none⟩=some (.string s)) (hB:B<=w.heap.size) (hA:l.length+1<=3518437208781)
  (h:∀v' w',Ua B w' v' (l++[s])->w.grownBy w' v.ownBlock->Kc (a.put o.dst v') w') :
  Oper.wp Tryz.prog o a w Kc Q:=by
 obtain⟨i0,hC,hD,hE,hF⟩:=Eg Hs;refine Cb sl x 46 ho B 9 i0 _ 1 16 Tryz.underlying46 hC hD hE hF (by decide) (by decide) v l.length (l.map .string) hs hO ⟨gg,0,none⟩ 1 1 [.string s] hx rfl (fun j u hj=>?_) (fun u hu=>?_) (by simp only[maxLen];omega) (by omega) hB ?_
 ·rcases j with _|j
  ·obtain rfl:Value.string s=u:=by simpa using hj
   exact hc
  ·simp at hj
 ·obtain rfl:u=.string s:=by simpa using hu
  rfl
 ·intro v' w' g1 g2 _ _;refine h v' w' ?_ g2;unfold Ua;rw[List.length_append,List.map_append];exact g1
theorem Ua.lt {B:Nat}{w:World}{v:Value}{l:List Z8}(h:Ua B w v l) {b:Nat}(hb:v.ownBlock=some b):B<=b/\b<w.heap.size:=by
 rcases h.2 with ⟨hv,-⟩|⟨g,cap,cur,hv,hB,hh,-⟩
 ·rw[hv]at hb;cases hb
 ·rw[hv]at hb;have e:some g=some b:=hb;injection e with e
  subst e;exact⟨hB,(Array.getElem?_eq_some_iff.1 hh).1⟩
theorem Ua.list {B:Nat}{w:World}{v:Value}{l:List Z8}(h:Ua B w v l) (hl:l.length<=1000000000000000):∃A c,v=.slice A l.length c/\Cg w l A/\∀b o,A=some ⟨b,o,none⟩->B<=b/\b<w.heap.size:=by
 rcases h.2 with ⟨hv,hn⟩|⟨g,cap,cur,hv,hB,hh,hD,hA,hE,hC⟩
 ·have e:l=[]:=List.eq_nil_of_length_eq_zero hn;subst e;exact⟨none,0,hv,⟨0,0,fun h=>absurd h (by simp),Nat.zero_le _,fun i h=>absurd h (by simp)⟩,fun b o e=>by cases e⟩
 ·refine⟨some ⟨g,0,none⟩,cap,hv,⟨g,0,fun _=>rfl,hl,fun i hi=>?_⟩,fun b o e=>by injection e with e;injection e with e _ _;subst e;exact⟨hB,(Array.getElem?_eq_some_iff.1 hh).1⟩⟩;have hy:(l.map Value.string)[i]?=some (.string l[i]):=by rw[List.getElem?_map,List.getElem?_eq_getElem hi];rfl
  rw[<-hC,List.getElem?_take]at hy
  split at hy
  ·rw[Nat.zero_add,Ch hh];simpa using hy
  ·cases hy
theorem Ua.keep {B:Nat}{w w':World}{v:Value}{l:List Z8}(h:Ua B w v l) (hk:∀b,v.ownBlock=some b->w'.heap[b]?=w.heap[b]?):Ua B w' v l:=by
 refine⟨h.1,?_⟩;rcases h.2 with h3|⟨g,cap,cur,hv,hg,hh,r⟩
 ·exact .inl h3
 ·exact .inr ⟨g,cap,cur,hv,hg,by rw[hk g (by rw[hv];rfl)];exact hh,r⟩
open Go.RowKit Go.ChangeShapes Go.WideShapes Go.Deep
theorem Pa {H:Type}{d:DataW H}{l:List (DataW H)}(h:d∈l):Rows.uptoBulk d<=Rows.uptoBulkAll l:=by
 induction l with
 | nil=>cases h
 | cons x r ih=>
  simp only[Rows.uptoBulkAll];rcases List.mem_cons.1 h with rfl|e
  ·omega
  ·have:=ih e;omega
theorem X4 {H:Type}(d:DataW H):1<=Rows.uptoBulk d:=by
 cases d with
 | lit l=>cases l <;> simp[Rows.uptoBulk]
 | nil=>simp[Rows.uptoBulk]
 | ptr d=>simp[Rows.uptoBulk]
 | slice elems spare=>simp[Rows.uptoBulk]
 | agg parts=>simp[Rows.uptoBulk]
 | iface t d=>simp[Rows.uptoBulk]
 | map entries=>simp[Rows.uptoBulk]
 | held h=>simp[Rows.uptoBulk]
theorem X3 {H:Type}(l:List (DataW H)):l.length<=Rows.uptoBulkAll l:=by
 induction l with
 | nil=>simp
 | cons x r ih=>have:=X4 x;simp only[Rows.uptoBulkAll,List.length_cons];omega
def I4 (t:Ty):Prop:=Ji t=true/\∀x∈Nr t,x.size<=reachBytes
theorem Ja2 {k:Int}{t:Z8}{n:Int}{ps:List Ty}{fs:Bx}{vs:Bt}(ht:t.size<=reachBytes) (hn:vs.length<=1048576) (hv:∀v∈vs,v.1.size<=reachBytes/\∀p∈v.2,I4 p) (hp:∀p∈ps,I4 p) (hf:∀f∈fs,I4 f.2.2):I4 (.mk k t n ps fs vs):=by
 constructor
 ·rw[Jau,Bool.and_eq_true,Bool.and_eq_true,Bool.and_eq_true,decide_eq_true_eq,List.all_eq_true,List.all_eq_true,List.all_eq_true];exact⟨hn,fun v h=>List.all_eq_true.2 fun b hb=>((hv v h).2 b hb).1,fun p h=>(hp p h).1,fun f h=>(hf f h).1⟩
 ·intro x hx;rw[Jdt]at hx;rcases List.mem_cons.1 hx with rfl|hx
  ·exact ht
  rcases List.mem_append.1 hx with hx|hx
  ·obtain⟨v,h,rfl⟩:=List.mem_map.1 hx;exact (hv v h).1
  rcases List.mem_append.1 hx with hx|hx
  ·obtain⟨L,hL,hx⟩:=List.mem_flatten.1 hx;obtain⟨v,h,rfl⟩:=List.mem_map.1 hL;obtain⟨M,hM,hx⟩:=List.mem_flatten.1 hx;obtain⟨b,hb,rfl⟩:=List.mem_map.1 hM;exact ((hv v h).2 b hb).2 x hx
  rcases List.mem_append.1 hx with hx|hx
  ·obtain⟨L,hL,hx⟩:=List.mem_flatten.1 hx;obtain⟨p,h,rfl⟩:=List.mem_map.1 hL;exact (hp p h).2 x hx
  ·obtain⟨L,hL,hx⟩:=List.mem_flatten.1 hx;obtain⟨f,h,rfl⟩:=List.mem_map.1 hL;exact (hf f h).2 x hx
theorem Jav (t:Ty):Ji t=true->Dk t=true:=by
 refine Ty.ind (C:=fun t=>Ji t=true->Dk t=true) (fun k t n ps fs vs hp hf hv h=>?_) t;obtain⟨h1,h2,h3,h4⟩:=Ve h;rw[Hy,Bool.and_eq_true,Bool.and_eq_true,Bool.and_eq_true,decide_eq_true_eq,List.all_eq_true,List.all_eq_true,List.all_eq_true];exact⟨by omega,fun v h=>List.all_eq_true.2 fun b hb=>hv v h b hb (h2 v h b hb),fun p h=>hp p h (h3 p h),fun f h=>hf f h (h4 f h)⟩
set_option maxRecDepth 100000
def Ud {H:Type} (enc:TypeId×Value->H) (W:World) (base:Nat) (hA:Bool) (d:DataW H):Prop:=∀(fuel:Nat) (cs:List Value) (p:List MemPlace),
 DataW.trod enc Tryz.prog W base (fun _=>true) hA fuel 26 cs=some (d,p)->(∀x∈d.weights Tryz.prog 26,x<=reachBytes)->Rows.uptoBulk d<=1048576->∃t,Aw (fun _=>True) W t cs/\I4 t
theorem Ld {H:Type}{enc:TypeId×Value->H}{W:World}{base:Nat}{hE:Bool}{fuel:Nat}{v:Value}{d:DataW H}{p:List MemPlace}
  (h:DataW.trod enc Tryz.prog W base (fun _=>true) hE fuel 22 [v]=some (d,p)) (hz:∀x∈d.weights Tryz.prog 22,x<=reachBytes) (ih:∀d',SizeOf.sizeOf d'<SizeOf.sizeOf d->Ud enc W base hE d') (hB:Rows.uptoBulk d<=1048576) :
  ∃(l:List Ty) (A:Option Addr) (c:Nat),v=.slice A l.length c/\Bk (fun _=>True) W l A c/\∀p∈l,I4 p:=by
 rcases open_slice Tryz.underlying22 h with ⟨e5,q5⟩|⟨ad,len,cap,m,nf,D,Pl,e5,hb,hl,hm,hQ,q5,hi⟩
 ·obtain rfl:v=.slice none 0 0:=by simpa using e5
  exact⟨[],none,0,rfl,⟨0,0,⟨Nat.le_refl _,by decide,fun _=>rfl,fun h=>absurd h (by simp)⟩,fun i h=>absurd h (by simp)⟩,fun p hp=>by cases hp⟩
 ·obtain rfl:v=.slice (some ad) len cap:=by simpa using e5
  have hP:m=cap:=by rw[hQ];simp
  subst hP;obtain⟨rfl,-⟩:d=_/\p=_:=by simpa only[Prod.mk.injEq] using q5
  have hK:Rows.uptoBulkAll ((List.range len).map D)<=1048576:=by
   simp only[Rows.uptoBulk]at hB;omega
  have hN:m*104<=reachBytes:=by
   have:=hz ((len+(m - len))*104) (by simp[DataW.weights,Tryz.underlying22,Ja4])
   rwa [show len+(m - len)=m by omega]at this
  have hD:m<=1000000000000000:=by have:=Gg;omega
  have hI:∀j,j<len->∃t,I4 t/\∃cs,Aw (fun _=>True) W t cs/\∀i,i<6->W.cell? ((ad.add (j*6)).add i)=cs[i]?:=fun j hj=>by
   obtain⟨cs',hH,hR⟩:=hi j (by omega);rw[Pb]at hH;obtain⟨_,hlen',hC⟩:=World.cells?_some hH;have hA:D j∈(List.range len).map D:=List.mem_map.2 ⟨j,List.mem_range.2 hj,rfl⟩;obtain⟨t,ht,hM⟩:=ih (D j) (by
    have h1:=List.sizeOf_lt_of_mem hA;simp;omega) nf cs' (Pl j) hR (fun x hx=>hz x (by
    simp only[DataW.weights,Tryz.underlying22];exact List.mem_cons_of_mem _ (List.mem_append_left _ (Ig hA hx)))) (Nat.le_trans (Pa hA) hK)
   exact⟨t,hM,cs',ht,hC⟩
  obtain⟨b,o,hG,hL⟩:=Tq (W:=W) (ad:=ad) (n0:=0) hl hD (fun h0=>by
   obtain⟨t,-,cs,hr,hC⟩:=hI 0 h0;have h6:=hr.six;have:=hC 0 (by omega);rw[H8,Nat.zero_mul,List.getElem?_eq_getElem (by omega)]at this;exact⟨by rw[this];rfl,rfl⟩)
  obtain⟨l,hO,hlp⟩:=I5 (C:=fun j t=>I4 t/\∃cs,Aw (fun _=>True) W t cs/\∀i,i<6->W.cell? ((ad.add (j*6)).add i)=cs[i]?) hI;subst hO;refine⟨l,some ad,m,rfl,⟨b,o,hG,fun i hF=>?_⟩,fun p hp=>by
   obtain⟨i,hF,rfl⟩:=List.getElem_of_mem hp;exact (hlp i hF).1⟩
  have ha:=hL (by omega);subst ha;obtain⟨-,cs,hr,hC⟩:=hlp i hF;refine⟨cs,fun j u hj=>?_,hr⟩;have hJ:=(List.getElem?_eq_some_iff.1 hj).1;rw[hr.six]at hJ;have:=hC j hJ;rw[H8,Jj,<-Nat.add_assoc]at this;rw[this,hj]
theorem Pu {H:Type}{enc:TypeId×Value->H}{W:World}{base:Nat}{hA:Bool}{fuel:Nat}{v:Value}{d:DataW H}{p:List MemPlace}
  (h:DataW.trod enc Tryz.prog W base (fun _=>true) hA fuel 23 [v]=some (d,p)) (hz:∀x∈d.weights Tryz.prog 23,x<=reachBytes) (ih:∀d',SizeOf.sizeOf d'<SizeOf.sizeOf d->Ud enc W base hA d') (hB:Rows.uptoBulk d<=1048576) :
  ∃(l:Bx) (A:Option Addr) (c:Nat),v=.slice A l.length c/\Dt (fun _=>True) W l A c/\∀f∈l,I4 f.2.2:=by
 rcases open_slice Tryz.underlying23 h with ⟨e5,q5⟩|⟨ad,len,cap,m,nf,D,Pl,e5,hb,hl,hm,hU,q5,hi⟩
 ·obtain rfl:v=.slice none 0 0:=by simpa using e5
  exact⟨[],none,0,rfl,⟨0,0,⟨Nat.le_refl _,by decide,fun _=>rfl,fun h=>absurd h (by simp)⟩,fun i h=>absurd h (by simp)⟩,fun p hp=>by cases hp⟩
 ·obtain rfl:v=.slice (some ad) len cap:=by simpa using e5
  have hT:m=cap:=by rw[hU];simp
  subst hT;obtain⟨rfl,-⟩:d=_/\p=_:=by simpa only[Prod.mk.injEq] using q5
  have hN:Rows.uptoBulkAll ((List.range len).map D)<=1048576:=by
   simp only[Rows.uptoBulk]at hB;omega
  have hQ:m*128<=reachBytes:=by
   have:=hz ((len+(m - len))*128) (by simp[DataW.weights,Tryz.underlying23,Ja5])
   rwa [show len+(m - len)=m by omega]at this
  have hE:m<=1000000000000000:=by have:=Gg;omega
  have hJ:∀j,j<len->∃f:Z8×Int×Ty,I4 f.2.2/\W.cell? (ad.add (j*8))=some (.string f.1)/\W.cell? (ad.add (j*8+1))=some (.int .i64 f.2.1)/\f.1.size<=1000000000000000/\∃cs,Aw (fun _=>True) W f.2.2 cs/\∀i,i<6->W.cell? (ad.add (j*8+2+i))=cs[i]?:=fun j hj=>by
   obtain⟨cs',hI,hV⟩:=hi j (by omega);rw[Jbe]at hI;obtain⟨_,hlen',hD⟩:=World.cells?_some hI;have hC:D j∈(List.range len).map D:=List.mem_map.2 ⟨j,List.mem_range.2 hj,rfl⟩;have hM:∀x∈(D j).weights Tryz.prog 59,x<=reachBytes:=fun x hx=>hz x (by
    simp only[DataW.weights,Tryz.underlying23];exact List.mem_cons_of_mem _ (List.mem_append_left _ (Ig hC hx)))
   have hL:=List.sizeOf_lt_of_mem hC;obtain⟨xs,n',hY,hx,_,hX,hf⟩:=DataW.trod_struct Tryz.underlying59 hV
   match cs',hlen' with
   | [v0,v1,v2,v3,v4,v5,v6,v7],_=>
    match xs,hX with
    | [y0,y1,y2],_=>
     have h0:DataW.trod enc Tryz.prog W base (fun _=>true) hA n' 9 (([v0,v1,v2,v3,v4,v5,v6,v7].drop 0).take (Tryz.prog.cellsOf 9))=some y0:=hf 0 _ rfl;have h1:DataW.trod enc Tryz.prog W base (fun _=>true) hA n' 3 (([v0,v1,v2,v3,v4,v5,v6,v7].drop 1).take (Tryz.prog.cellsOf 3))=some y1:=hf 1 _ rfl;have h2:DataW.trod enc Tryz.prog W base (fun _=>true) hA n' 26 (([v0,v1,v2,v3,v4,v5,v6,v7].drop 2).take (Tryz.prog.cellsOf 26))=some y2:=hf 2 _ rfl;rw[X5]at h0;rw[Jda]at h1;rw[Pb]at h2;obtain⟨s,e0,q0,_⟩:=DataW.trod_string Tryz.underlying9 h0;obtain⟨g,e1,q1,_⟩:=DataW.trod_int Tryz.underlying3 h1;obtain rfl:v0=.string s:=by have h:[v0]=[.string s]:=e0;simpa using h
     obtain rfl:v1=.int .i64 g:=by have h:[v1]=[.int .i64 g]:=e1;simpa using h
     subst q0 q1;have hF:D j=.agg ([_,_,y2].map (·.1)):=(Prod.mk.inj hx).1;have ht:s.size<=1000000000000000:=by
      have:=hM s.data.toList.length (by rw[hF];simp[DataW.weights,DataW.weightsEach,Tryz.underlying59]);have h2:s.size=s.data.toList.length:=(by simp);have:=Gg;omega
     obtain⟨t,hr,hP⟩:=ih y2.1 (by
      rw[hF]at hL;simp at hL ⊢;omega) n' _ y2.2 h2 (fun x hW=>hM x (by
       rw[hF];simp[DataW.weights,DataW.weightsEach,Tryz.underlying59];exact .inr hW)) (by
      have h5:=Nat.le_trans (Pa hC) hN;rw[hF]at h5;simp only[List.map_cons,List.map_nil,Rows.uptoBulk,Rows.uptoBulkAll]at h5;omega)
     have a0:=hD 0 (by decide);have a1:=hD 1 (by decide);rw[H8]at a0 a1;refine⟨(s,g,t),hP,a0,a1,ht,_,hr,fun i hR=>?_⟩;have ai:=hD (2+i) (by omega);rw[H8,<-Nat.add_assoc]at ai;rw[ai]
     match i,hR with
     | 0,_=>rfl
     | 1,_=>rfl
     | 2,_=>rfl
     | 3,_=>rfl
     | 4,_=>rfl
     | 5,_=>rfl
  obtain⟨b,o,hH,hO⟩:=Tq (W:=W) (ad:=ad) (n0:=0) hl hE (fun h0=>by
   obtain⟨f,-,hf,_⟩:=hJ 0 h0;rw[Nat.zero_mul]at hf;exact⟨by rw[hf];rfl,rfl⟩)
  obtain⟨l,hS,hlp⟩:=I5 hJ;subst hS;refine⟨l,some ad,m,rfl,⟨b,o,hH,fun i hG=>?_⟩,fun p hp=>by
   obtain⟨i,hG,rfl⟩:=List.getElem_of_mem hp;exact (hlp i hG).1⟩
  have ha:=hO (by omega);subst ha;obtain⟨-,f0,f1,f2,cs,hr,hD⟩:=hlp i hG;rw[Jj]at f0 f1;refine⟨f0,f1,f2,cs,fun j u hj=>?_,hr⟩;have hK:=(List.getElem?_eq_some_iff.1 hj).1;rw[hr.six]at hK;have:=hD j hK;rw[Jj]at this;rw[show o+i*8+2+j=o+(i*8+2+j) from by omega,this,hj]
theorem Tn {H:Type}{enc:TypeId×Value->H}{W:World}{base:Nat}{hA:Bool}{fuel:Nat}{v:Value}{d:DataW H}{p:List MemPlace}
  (h:DataW.trod enc Tryz.prog W base (fun _=>true) hA fuel 24 [v]=some (d,p)) (hz:∀x∈d.weights Tryz.prog 24,x<=reachBytes) (ih:∀d',SizeOf.sizeOf d'<SizeOf.sizeOf d->Ud enc W base hA d') (hB:Rows.uptoBulk d<=1048576) :
  ∃(l:Bt) (A:Option Addr) (c:Nat),v=.slice A l.length c/\Da (fun _=>True) W l A c/\l.length<=1048576/\∀v∈l,v.1.size<=reachBytes/\∀p∈v.2,I4 p:=by
 rcases open_slice Tryz.underlying24 h with ⟨e5,q5⟩|⟨ad,len,cap,m,nf,D,Pl,e5,hb,hl,hm,hU,q5,hi⟩
 ·obtain rfl:v=.slice none 0 0:=by simpa using e5
  exact⟨[],none,0,rfl,⟨0,0,⟨Nat.le_refl _,by decide,fun _=>rfl,fun h=>absurd h (by simp)⟩,fun i h=>absurd h (by simp)⟩,by simp,fun p hp=>by cases hp⟩
 ·obtain rfl:v=.slice (some ad) len cap:=by simpa using e5
  have hT:m=cap:=by rw[hU];simp
  subst hT;obtain⟨rfl,-⟩:d=_/\p=_:=by simpa only[Prod.mk.injEq] using q5
  have hO:Rows.uptoBulkAll ((List.range len).map D)<=1048576:=by
   simp only[Rows.uptoBulk]at hB;omega
  have hR:m*40<=reachBytes:=by
   have:=hz ((len+(m - len))*40) (by simp[DataW.weights,Tryz.underlying24,Ja6])
   rwa [show len+(m - len)=m by omega]at this
  have hD:m<=1000000000000000:=by have:=Gg;omega
  have hJ:∀j,j<len->∃f:Z8×List Ty,(f.1.size<=reachBytes/\∀p∈f.2,I4 p)/\W.cell? (ad.add (j*2))=some (.string f.1)/\f.1.size<=1000000000000000/\∃B d',W.cell? (ad.add (j*2+1))=some (.slice B f.2.length d')/\Bk (fun _=>True) W f.2 B d':=fun j hj=>by
   obtain⟨cs',hI,hV⟩:=hi j (by omega);rw[Jbf]at hI;obtain⟨_,hlen',hH⟩:=World.cells?_some hI;have hC:D j∈(List.range len).map D:=List.mem_map.2 ⟨j,List.mem_range.2 hj,rfl⟩;have hN:∀x∈(D j).weights Tryz.prog 62,x<=reachBytes:=fun x hx=>hz x (by
    simp only[DataW.weights,Tryz.underlying24];exact List.mem_cons_of_mem _ (List.mem_append_left _ (Ig hC hx)))
   have hK:=List.sizeOf_lt_of_mem hC;obtain⟨xs,n',hY,hx,_,hX,hf⟩:=DataW.trod_struct Tryz.underlying62 hV
   match cs',hlen' with
   | [v0,v1],_=>
    match xs,hX with
    | [y0,y1],_=>
     have h0:DataW.trod enc Tryz.prog W base (fun _=>true) hA n' 9 (([v0,v1].drop 0).take (Tryz.prog.cellsOf 9))=some y0:=hf 0 _ rfl;have h1:DataW.trod enc Tryz.prog W base (fun _=>true) hA n' 22 (([v0,v1].drop 1).take (Tryz.prog.cellsOf 22))=some y1:=hf 1 _ rfl;rw[X5]at h0;rw[Jd4]at h1;obtain⟨s,e0,q0,_⟩:=DataW.trod_string Tryz.underlying9 h0;obtain rfl:v0=.string s:=by have h:[v0]=[.string s]:=e0;simpa using h
     subst q0;have hE:D j=.agg ([_,y1].map (·.1)):=(Prod.mk.inj hx).1;have hM:s.size<=reachBytes:=by
      have:=hN s.data.toList.length (by rw[hE];simp[DataW.weights,DataW.weightsEach,Tryz.underlying62]);have h2:s.size=s.data.toList.length:=(by simp);omega
     have ht:s.size<=1000000000000000:=Nat.le_trans hM Gg;have h1':DataW.trod enc Tryz.prog W base (fun _=>true) hA n' 22 [v1]=some (y1.1,y1.2):=h1;obtain⟨l,B,d',rfl,hL,hQ⟩:=Ld h1' (fun x hW=>hN x (by
       rw[hE];simp[DataW.weights,DataW.weightsEach,Tryz.underlying62];exact .inr hW)) (fun d' hd'=>ih d' (by
      rw[hE]at hK;simp at hK ⊢;omega)) (by
      have h5:=Nat.le_trans (Pa hC) hO;rw[hE]at h5;simp only[List.map_cons,List.map_nil,Rows.uptoBulk,Rows.uptoBulkAll]at h5;omega)
     have a0:=hH 0 (by decide);have a1:=hH 1 (by decide);rw[H8]at a0 a1;exact⟨(s,l),⟨hM,hQ⟩,a0,ht,B,d',a1,hL⟩
  obtain⟨b,o,hG,hP⟩:=Tq (W:=W) (ad:=ad) (n0:=0) hl hD (fun h0=>by
   obtain⟨f,-,hf,_⟩:=hJ 0 h0;rw[Nat.zero_mul]at hf;exact⟨by rw[hf];rfl,rfl⟩)
  obtain⟨l,hS,hlp⟩:=I5 hJ;subst hS;refine⟨l,some ad,m,rfl,⟨b,o,hG,fun i hF=>?_⟩,by have h1:=X3 ((List.range l.length).map D);rw[List.length_map,List.length_range]at h1;omega,fun p hp=>by
   obtain⟨i,hF,rfl⟩:=List.getElem_of_mem hp;exact (hlp i hF).1⟩
  have ha:=hP (by omega);subst ha;obtain⟨-,f0,f2,B,d',f1,hr⟩:=hlp i hF;rw[Jj]at f0 f1;exact⟨B,d',f0,f1,f2,hr⟩
theorem W6 {H:Type}{enc:TypeId×Value->H}{W:World}{base:Nat}{hA:Bool}:∀(s:Nat) (d:DataW H),SizeOf.sizeOf d=s->Ud enc W base hA d:=by
 intro s
 induction s using Nat.strongRecOn with
 | _ s ih=>
  intro d hs fuel cs p h hz hB;obtain⟨xs,n,rfl,hx,hC,hL,hf⟩:=DataW.trod_struct Tryz.underlying26 h;simp only[Prod.mk.injEq]at hx;obtain⟨rfl,rfl⟩:=hx;rw[Pb]at hC
  match cs,hC with
  | [v0,v1,v2,v3,v4,v5],_=>
   match xs,hL with
   | [y0,y1,y2,y3,y4,y5],_=>
    have h0:DataW.trod enc Tryz.prog W base (fun _=>true) hA n 3 (([v0,v1,v2,v3,v4,v5].drop 0).take (Tryz.prog.cellsOf 3))=some y0:=hf 0 _ rfl;have h1:DataW.trod enc Tryz.prog W base (fun _=>true) hA n 9 (([v0,v1,v2,v3,v4,v5].drop 1).take (Tryz.prog.cellsOf 9))=some y1:=hf 1 _ rfl;have h2:DataW.trod enc Tryz.prog W base (fun _=>true) hA n 2 (([v0,v1,v2,v3,v4,v5].drop 2).take (Tryz.prog.cellsOf 2))=some y2:=hf 2 _ rfl;have h3:DataW.trod enc Tryz.prog W base (fun _=>true) hA n 22 (([v0,v1,v2,v3,v4,v5].drop 3).take (Tryz.prog.cellsOf 22))=some y3:=hf 3 _ rfl;have h4:DataW.trod enc Tryz.prog W base (fun _=>true) hA n 23 (([v0,v1,v2,v3,v4,v5].drop 4).take (Tryz.prog.cellsOf 23))=some y4:=hf 4 _ rfl;have h5:DataW.trod enc Tryz.prog W base (fun _=>true) hA n 24 (([v0,v1,v2,v3,v4,v5].drop 5).take (Tryz.prog.cellsOf 24))=some y5:=hf 5 _ rfl;rw[Jda]at h0;rw[X5]at h1;rw[Ja7]at h2;rw[Jd4]at h3;rw[Jd5]at h4;rw[Jd6]at h5;obtain⟨k,e0,q0,_⟩:=DataW.trod_int Tryz.underlying3 h0;obtain⟨t,e1,q1,_⟩:=DataW.trod_string Tryz.underlying9 h1;obtain⟨nn,e2,q2,_⟩:=DataW.trod_int Tryz.underlying2 h2;obtain rfl:v0=.int .i64 k:=by have h:[v0]=[.int .i64 k]:=e0;simpa using h
    obtain rfl:v1=.string t:=by have h:[v1]=[.string t]:=e1;simpa using h
    obtain rfl:v2=.int .i64 nn:=by have h:[v2]=[.int .i64 nn]:=e2;simpa using h
    subst q0 q1 q2;have hD:t.size<=reachBytes:=by
     have:=hz t.data.toList.length (by simp[DataW.weights,DataW.weightsEach,Tryz.underlying26]);have h2:t.size=t.data.toList.length:=(by simp);omega
    have ht:t.size<=1000000000000000:=Nat.le_trans hD Gg;obtain⟨l3,A3,c3,rfl,hH,hE⟩:=Ld (show _=some (y3.1,y3.2) from h3) (fun x hx=>hz x (by simp[DataW.weights,DataW.weightsEach,Tryz.underlying26];exact .inr (.inl hx))) (fun d' hd'=>ih (SizeOf.sizeOf d') (by rw[<-hs];simp;omega) d' rfl) (by simp only[List.map_cons,List.map_nil,Rows.uptoBulk,Rows.uptoBulkAll]at hB;omega);obtain⟨l4,A4,c4,rfl,hI,hF⟩:=Pu (show _=some (y4.1,y4.2) from h4) (fun x hx=>hz x (by simp[DataW.weights,DataW.weightsEach,Tryz.underlying26];exact .inr (.inr (.inl hx)))) (fun d' hd'=>ih (SizeOf.sizeOf d') (by rw[<-hs];simp;omega) d' rfl) (by simp only[List.map_cons,List.map_nil,Rows.uptoBulk,Rows.uptoBulkAll]at hB;omega);obtain⟨l5,A5,c5,rfl,hJ,hK,hG⟩:=Tn (show _=some (y5.1,y5.2) from h5) (fun x hx=>hz x (by simp[DataW.weights,DataW.weightsEach,Tryz.underlying26];exact .inr (.inr (.inr hx)))) (fun d' hd'=>ih (SizeOf.sizeOf d') (by rw[<-hs];simp;omega) d' rfl) (by simp only[List.map_cons,List.map_nil,Rows.uptoBulk,Rows.uptoBulkAll]at hB;omega);exact⟨.mk k t nn l3 l4 l5,Aw.of ht hH hI hJ,Ja2 hD hK hG hE hF⟩
theorem openu_typeV {H:Type}{enc:TypeId×Value->H}{W:World}{base b0:Nat}{hA:Bool}{r:Reach}{v:Value}{d:DataW H}{p:List MemPlace}(hv:Value.okWide Tryz.prog W r b0 26 v) (h:DataW.Trod enc Tryz.prog W base (fun _=>true) hA 26 v d p) (hz:∀x∈d.weights Tryz.prog 26,x<=reachBytes) (hB:Rows.uptoBulk d<=1048576) :
  ∃(t:Ty) (x0:Int) (x1:Z8) (x2:Int) (x3:Option Addr) (x4 x5:Nat) (x6:Option Addr) (x7 x8:Nat) (x9:Option Addr) (xa xb:Nat),v=.agg #[.int .i64 x0,.string x1,.int .i64 x2,.slice x3 x4 x5,.slice x6 x7 x8,.slice x9 xa xb]/\Aw (fun _=>True) W t [.int .i64 x0,.string x1,.int .i64 x2,.slice x3 x4 x5,.slice x6 x7 x8,.slice x9 xa xb]/\I4 t:=by
 obtain⟨cs,rfl,hD⟩:=okWide_struct Tryz.underlying26 hv;obtain⟨l⟩:=cs;obtain⟨fuel,hf⟩:=h;obtain⟨t,ht,hC⟩:=W6 _ d rfl fuel _ p hf hz hB;obtain⟨k,s,n,ps,fs,vs⟩:=t;obtain⟨A,c,A',c',A'',c'',e,_⟩:=ht.inv;have e2:l=Az k s n A ps.length c A' fs.length c' A'' vs.length c'':=by simpa [Value.cells] using e
 subst e2;exact⟨_,_,_,_,_,_,_,_,_,_,_,_,_,rfl,by simpa [Value.cells,Az] using ht,hC⟩
