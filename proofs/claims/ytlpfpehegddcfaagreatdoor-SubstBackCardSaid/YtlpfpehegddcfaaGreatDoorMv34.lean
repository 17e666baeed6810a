import Derived.Test.YtlpfpehegddcfaaGreatDoorMv33
namespace Go.Proofs.YtlpfpehegddcfaaGreatDoor
set_option maxRecDepth 100000
set_option maxHeartbeats 64000000
open Go.RowKit
theorem Jer:(Tryz.prog.info? 62).map (fun i=>(i.zero,i.size,i.bytes))=some (some (.agg #[.string ⟨#[]⟩,.slice none 0 0]),2,40):=by kernel_rfl
theorem Yd (w:World) (a:Option Addr) (l c:Nat):(binOp .eql 24 (.slice a l c) (.slice none 0 0)).run Tryz.prog w=.ok (.bool a.isNone) w:=by
 simp[binOp,run_equal_slice_nil w 24 62 a l c Tryz.underlying24]
theorem Qb (ad:Addr) (n c:Nat) (news:List Value) (w:World) (hn:n<=3518437208780) (hl:news.length=n*2) (h1:∀ u∈news,u.oneCell'=true) (h:∀ j u,news[j]?=some u->w.cell? (ad.add j)=some u) :
  Calls Tryz.prog 112 #[.slice (some ad) n c] w fun e w'=>∃ g c',e=.returned (.slice (some ⟨g,0,none⟩) n c')/\w.heap.size<=g/\g<w'.heap.size/\n<=c'/\w'.ownsRow w.heap.size 62 2 (.slice (some ⟨g,0,none⟩) n c') n news/\Below w.heap.size w w':=by
 obtain⟨i0,hi0,hz0,hz1,hz2⟩:=D4 Jer;have HS:=Hd h;have HN:=Hd hn;have HL:=Hd hl;have HO:=Hd h1;have hq:=Yd w (some ad) n c;simp only[Option.isNone_some] at hq;clear h hn hl h1;go_enter Tryz.func112,Tryz.ntmps112;have HE:=Hd (World.ownsRow_lit (base:=w.heap.size) (e:=62) (size:=2) w #[] 0 (Nat.le_refl _) (by decide) rfl);go_wp2_with (at_builtin;go_loud (refine wpList_append_own _ rfl _ _ 24 rfl w.heap.size 62 i0 (.agg #[.string ⟨#[]⟩,.slice none 0 0]) 2 40 Tryz.underlying24 hi0 hz0 hz1 hz2 rfl (by decide) _ _ _ rfl HE.out ad n c news rfl ?a0 ?a1 ?a2 ?a3 ?a4 ?a5 ?_))
 case a0=>exact HL.out
 case a1=>exact fun j u hj=>Aa ((Below.refl _ _).alloc (Nat.le_refl _) _) (HS.out j u hj)
 case a2=>exact HO.out
 case a3=>exact Nat.le_trans (by have:=HN.out;omega) (by decide:3518437208780<=maxLen)
 case a4=>have:=HN.out;omega
 intro v' w' hown hgrow hne;obtain⟨g,cap,hv,hbg,hgl,hnc,hrow⟩:∃ g cap,v'=.slice (some ⟨g,0,none⟩) n cap/\w.heap.size<=g/\g<w'.heap.size/\n<=cap/\w'.ownsRow w.heap.size 62 2 (.slice (some ⟨g,0,none⟩) n cap) n news:=by
  have h2:=hown.2;rcases h2 with ⟨h3,h4⟩ | ⟨g,cap,cur,h3,h4,h5,h6,_⟩
  ·exact absurd h3 hne
  ·subst h3;exact⟨g,cap,rfl,h4,(Array.getElem?_eq_some_iff.1 h5).1,h6,hown⟩
 subst hv;have hb:Below w.heap.size w w':=((Below.refl w.heap.size w).alloc (Nat.le_refl _) (.cells #[] 62)).grown hgrow (by simp) (fun k hk=>by simp[Value.ownBlock] at hk;omega);have HB:=Hd hb;have HR:=Hd hrow;clear hown hgrow hne hb hrow
 go_wp2
 go_ret
 exact⟨g,cap,rfl,hbg,hgl,hnc,HR.out,HB.out⟩
theorem O9 (w:World) :
  Calls Tryz.prog 112 #[.slice none 0 0] w fun e w'=>e=.returned (.slice none 0 0)/\w=w':=by
 have hq:=Yd w none 0 0;simp only[Option.isNone_none] at hq;go_enter Tryz.func112,Tryz.ntmps112;go_wp2_with fail;go_ret
 exact⟨rfl,rfl⟩
structure PlV (P:Nat->Prop) (w:World) (g:Nat) (l:Bm):Prop where
 lt:g<w.heap.size
 cell:∀ y,y<l.length*2->∃ v,w.cell? ⟨g,y,none⟩=some v
 free:∀ y,w.frozen? ⟨g,y,none⟩=false
 reps:∀ i (h:i<l.length),w.cell? ⟨g,i*2,none⟩=some (.string l[i].1)/\l[i].1.size<=1000000000000000/\∃ B d,w.cell? ⟨g,i*2+1,none⟩=some (.slice B l[i].2.length d)/\ListT P w l[i].2 B d
theorem PlV.weak {P P':Nat->Prop} {w:World} {g:Nat} {l:Bm} (h:PlV P w g l) (hp:∀ x,P x->P' x):PlV P' w g l:=
 ⟨h.lt,h.cell,h.free,fun i hi=>by obtain⟨h1,h2,B,d,h3,h4⟩:=h.reps i hi;exact⟨h1,h2,B,d,h3,h4.weak hp⟩⟩
theorem PlV.but {P O:Nat->Prop} {w w':World} {g:Nat} {l:Bm} (h:PlV P w g l) (hb:ButG O w w') (hg:¬ O g) (hp:∀ x,P x->¬ O x):PlV P w' g l:=
 ⟨Nat.lt_of_lt_of_le h.lt hb.size,fun y hy=>by obtain⟨v,hv⟩:=h.cell y hy;exact⟨v,hb.cell hg hv⟩,fun y=>Hf (hb.block g h.lt hg) (h.free y),
  fun i hi=>by obtain⟨h1,h2,B,d,h3,h4⟩:=h.reps i hi;exact⟨hb.cell hg h1,h2,B,d,hb.cell hg h3,h4.but hb fun x hx=>⟨hp x hx,hx⟩⟩⟩
def J9 (w:World) (g y:Nat) (v0 v1:Value):World:=(w.setCell ⟨g,y,none⟩ v0).setCell ⟨g,y+1,none⟩ v1
theorem Rx {w:World} {g y:Nat} {v0 v1:Value} {p:Addr} (h:p.block≠g\/p.off<y\/y+2<=p.off):(J9 w g y v0 v1).cell? p=w.cell? p:=by
 have hne:∀ i,i<2->(⟨g,y+i,none⟩:Addr)≠p:=fun i hi e=>by
  subst e;rcases h with h | h | h
  ·exact h rfl
  ·have h:y+i<y:=h;omega
  ·have h:y+2<=y+i:=h;omega
 unfold J9;rw[World.cell?_setCell_other _ _ _ _ (hne 1 (by omega)),World.cell?_setCell_other _ _ _ _ (show (⟨g,y,none⟩:Addr)≠p from hne 0 (by omega))]
theorem M2 {O:Nat->Prop} {a w:World} {g y:Nat} {v0 v1:Value} (h:ButG O a w) (hg:O g\/a.heap.size<=g):ButG O a (J9 w g y v0 v1):=
 (h.set (p:=⟨g,y,none⟩) hg v0).set (p:=⟨g,y+1,none⟩) hg v1
theorem Wy {w:World} {g y:Nat} {v0 v1:Value}:(J9 w g y v0 v1).heap.size=w.heap.size:=by
 unfold J9;simp
theorem PlV.set {P:Nat->Prop} {w:World} {g i d:Nat} {l:Bm} {nm:ByteArray} {b:List Ty} {B:Option Addr} (h:PlV P w g l) (hP:∀ x,P x->x≠g) (hi:i<l.length) (hnm:nm.size<=1000000000000000) (ht:ListT P w b B d):PlV P (J9 w g (i*2) (.string nm) (.slice B b.length d)) g (l.set i (nm,b)):=by
 have hbut:ButG (fun x=>x=g) w (J9 w g (i*2) (.string nm) (.slice B b.length d)):=M2 (ButG.refl _ _) (.inl rfl);refine⟨by rw[Wy];exact h.lt,fun y hy=>?_,fun y=>?_,fun k hk=>?_⟩
 ·rw[List.length_set] at hy;exact Bn (Bn (h.cell y hy))
 ·unfold J9;rw[World.frozen?_setCell,World.frozen?_setCell];exact h.free y
 ·rw[List.length_set] at hk;obtain⟨h1,h2,B',d',h3,h4⟩:=h.reps k hk;by_cases e:i=k
  ·subst e;simp only[List.getElem_set_self];refine⟨?_,hnm,B,d,?_,ht.but hbut fun x hx=>⟨hP x hx,hx⟩⟩
   ·unfold J9;rw[World.cell?_setCell_other _ _ _ _ (Eg (by omega))];exact Fp (h.cell (i*2) (by omega))
   ·unfold J9;exact Fp (Bn (h.cell (i*2+1) (by omega)))
  ·simp only[List.getElem_set_ne e];refine⟨?_,h2,B',d',?_,h4.but hbut fun x hx=>⟨hP x hx,hx⟩⟩
   ·rw[Rx (.inr (by show k*2<i*2\/i*2+2<=k*2;omega))];exact h1
   ·rw[Rx (.inr (by show k*2+1<i*2\/i*2+2<=k*2+1;omega))];exact h3
theorem PlV.list {P:Nat->Prop} {w:World} {g c:Nat} {l:Bm} (h:PlV P w g l) (hc:l.length<=c) (hl:l.length<=1000000000000000):ListV (fun x=>P x\/x=g) w l (some ⟨g,0,none⟩) c:=
 ⟨g,0,⟨hc,hl,(fun h=>by cases h),fun _=>⟨rfl,.inr rfl⟩⟩,fun i hi=>by
  obtain⟨h1,h2,B,d,h3,h4⟩:=h.reps i hi;exact⟨B,d,by rw[Nat.zero_add];exact h1,by rw[Nat.zero_add];exact h3,h2,h4.weak fun b hb=>.inl hb⟩⟩
theorem Xi {K:Nat->Prop} {w:World} {b o:Nat} {l:Bm} (h:∀ i (h:i<l.length),∃ B d,w.cell? ⟨b,o+i*2,none⟩=some (.string l[i].1)/\w.cell? ⟨b,o+i*2+1,none⟩=some (.slice B l[i].2.length d)/\l[i].1.size<=1000000000000000/\ListT K w l[i].2 B d) (n:Nat):n<=l.length ->
  ∃ news:List Value,news.length=n*2/\(∀ j u,news[j]?=some u->w.cell? ⟨b,o+j,none⟩=some u)/\(∀ u∈news,u.oneCell'=true)/\∀ i (h:i<l.length),i<n->news[i*2]?=some (.string l[i].1)/\∃ B d,news[i*2+1]?=some (.slice B l[i].2.length d)/\ListT K w l[i].2 B d:=by
 induction n with
 | zero=>intro _;exact⟨[],rfl,fun j u h=>by simp at h,fun u h=>by simp at h,fun i _ h=>absurd h (by omega)⟩
 | succ n ih=>
  intro hn;obtain⟨news,h1,h2,h3,h4⟩:=ih (by omega);obtain⟨B,d,h5,h6,-,h7⟩:=h n (by omega);refine⟨news++[.string (l[n]'(by omega)).1,.slice B (l[n]'(by omega)).2.length d],by rw[List.length_append,h1];simp;omega,fun j u hj=>?_,fun u hu=>?_,fun i hi hin=>?_⟩
  ·by_cases hlt:j<news.length
   ·rw[List.getElem?_append_left hlt] at hj;exact h2 j u hj
   ·rw[List.getElem?_append_right (by omega)] at hj;obtain⟨q,hq⟩:∃ q,q=j - news.length:=⟨_,rfl⟩;rw[<-hq] at hj;rcases q with _ | _ | q
    ·obtain rfl:Value.string _=u:=by simpa using hj
     rw[<-h5];congr 2;omega
    ·obtain rfl:Value.slice _ _ _=u:=by simpa using hj
     rw[<-h6];congr 2;omega
    ·simp at hj
  ·rcases List.mem_append.1 hu with hu | hu
   ·exact h3 u hu
   ·rcases List.mem_cons.1 hu with rfl | hu
    ·rfl
    ·rcases List.mem_cons.1 hu with rfl | hu
     ·rfl
     ·cases hu
  ·by_cases hlt:i<n
   ·obtain⟨e1,B',d',e2,e3⟩:=h4 i hi hlt;have lift:∀ j u,news[j]?=some u->(news++[.string (l[n]'(by omega)).1,.slice B (l[n]'(by omega)).2.length d])[j]?=some u:=fun j u hj=>by
     rw[List.getElem?_append_left (List.getElem?_eq_some_iff.1 hj).1];exact hj
    exact⟨lift _ _ e1,B',d',lift _ _ e2,e3⟩
   ·obtain rfl:i=n:=by omega
    refine⟨?_,B,d,?_,h7⟩
    ·rw[List.getElem?_append_right (by omega),show i*2 - news.length=0 from by omega];rfl
    ·rw[List.getElem?_append_right (by omega),show i*2+1 - news.length=1 from by omega];rfl
theorem Sc {K:Nat->Prop} {w:World} {l:Bm} {A:Option Addr} {c:Nat} (hV:ListV K w l A c) (h0:0<l.length) (hn:l.length<=3518437208780) :
  Calls Tryz.prog 112 #[.slice A l.length c] w fun e w'=>∃ g c',e=.returned (.slice (some ⟨g,0,none⟩) l.length c')/\w.heap.size<=g/\l.length<=c'/\PlV K w' g l/\Below w.heap.size w w':=by
 obtain⟨b,o,rfl,-,hL⟩:=hV.at h0;obtain⟨news,h1,h2,h3,h4⟩:=Xi hL l.length (Nat.le_refl _);refine (Qb ⟨b,o,none⟩ l.length c news w hn h1 h3 fun j u hj=>?_).mono ?_
 ·have e2:((⟨b,o,none⟩:Addr).add j)=⟨b,o+j,none⟩:=by unfold Addr.add;by_cases h0:j=0 <;> simp[h0]
  rw[e2];exact h2 j u hj
 ·rintro e w' ⟨g,c',rfl,hg,hgl,hc,hown,hb⟩;refine⟨g,c',rfl,hg,hc,?_,hb⟩;rcases hown.2 with ⟨hv,hz⟩ | ⟨g',cap,cur,hv,hB,hh,hle,hmax,hsz,htk⟩
  ·cases hv
  ·injection hv with hv _ _
   injection hv with hv
   injection hv with hv
   subst hv;have hcell:∀ y u,news[y]?=some u->w'.cell? ⟨g,y,none⟩=some u:=fun y u hy=>by
    rw[<-htk,List.getElem?_take] at hy
    split at hy
    ·rw[Ch hh];simpa using hy
    ·cases hy
   refine⟨hgl,fun y hy=>?_,fun y=>Lib.frozen_of_heap hh y,fun i hi=>?_⟩
   ·have hy2:y<news.length:=(by omega);exact⟨news[y],hcell y _ (List.getElem?_eq_getElem hy2)⟩
   ·obtain⟨e1,B,d,e2,e3⟩:=h4 i hi hi;obtain⟨-,-,-,-,e4,-⟩:=hL i hi;exact⟨hcell _ _ e1,e4,B,d,hcell _ _ e2,e3.later hb⟩
theorem Qa {K:Nat->Prop} {w:World} {A:Option Addr} {c:Nat} (hV:ListV K w [] A c) :
  Calls Tryz.prog 112 #[.slice A 0 c] w fun e w'=>∃ A' c',e=.returned (.slice A' 0 c')/\(A'=none->c'=0)/\Below w.heap.size w w':=by
 obtain⟨b,o,hrow,-⟩:=hV;rcases A with _ | ad
 ·obtain rfl:=hrow.none rfl;refine (O9 w).mono ?_;rintro e w' ⟨rfl,rfl⟩;exact⟨none,0,rfl,fun _=>rfl,Below.refl _ _⟩
 ·refine (Qb ad 0 c [] w (by omega) rfl (fun u hu=>by cases hu) fun j u hj=>by simp at hj).mono ?_;rintro e w' ⟨g,c',rfl,-,-,-,-,hb⟩;exact⟨_,c',rfl,(fun h=>by cases h),hb⟩
theorem Nt {K:Nat->Prop} {w:World} {l:List Ty} {A:Option Addr} {c:Nat} (hL:ListT K w l A c) (hn:l.length<=1000000) :
  Calls Tryz.prog 66 #[.slice A l.length c] w fun e w'=>∃ A' c',e=.returned (.slice A' l.length c')/\OutT K w w' (.slice A' l.length c') l/\Below w.heap.size w w':=by
 obtain⟨b,o,hrow,hat⟩:=hL;rcases A with _ | ad
 ·obtain rfl:=hrow.none rfl;have hl:l=[]:=List.eq_nil_of_length_eq_zero (by have:=hrow.le;omega);subst hl;refine (Ja w).mono ?_;rintro e w' ⟨rfl,rfl⟩;exact⟨none,0,rfl,⟨⟨[],World.ownsRow_nil _ _ _ _,fun i h=>absurd h (by simp)⟩⟩,Below.refl _ _⟩
 ·obtain⟨news,h1,h2,h3,h4⟩:=Kf hat;refine (L8 ad l.length c news w hn h1 h3 fun j u hj=>?_).mono ?_
  ·have h0:0<l.length:=by have:=(List.getElem?_eq_some_iff.1 hj).1;omega
   have e:=(hrow.some h0).1;injection e with e
   subst e;have e2:((⟨b,o,none⟩:Addr).add j)=⟨b,o+j,none⟩:=by unfold Addr.add;by_cases h0:j=0 <;> simp[h0]
   rw[e2];exact h2 j u hj
  ·rintro e w' ⟨g,c',rfl,-,-,-,hown,hb⟩;exact⟨_,c',rfl,⟨⟨news,hown,h4⟩⟩,hb⟩
def NmO (B:Nat) (w:World) (v:Value) (l:List ByteArray):Prop:=w.ownsRow B 9 1 v l.length (l.map .string)
theorem Pz {B:Nat} {w:World} {v:Value} {l:List ByteArray} {s:ByteArray} {gg:Nat} {o:Oper} {a:Act} {Kc:Act->World->Prop} {Q:Exit->Act->World->Prop} (sl x:Operand)
  (ho:o.op=.call { callee:=.builtin .append,args:=#[sl,x],argTypes:=#[46,46] }) (hs:a.eval sl=v) (hx:a.eval x=.slice (some ⟨gg,0,none⟩) 1 1)
  (hO:NmO B w v l) (hc:w.cell? ⟨gg,0,none⟩=some (.string s)) (hB:B<=w.heap.size) (hsize:l.length+1<=3518437208781)
  (h:∀ v' w',NmO B w' v' (l++[s])->w.grownBy w' v.ownBlock->Kc (a.put o.dst v') w') :
  Oper.wp Tryz.prog o a w Kc Q:=by
 obtain⟨i0,hi0,hz0,hz1,hz2⟩:=D4 Ih;refine Bz sl x 46 ho B 9 i0 _ 1 16 Tryz.underlying46 hi0 hz0 hz1 hz2 (by decide) (by decide) v l.length (l.map .string) hs hO ⟨gg,0,none⟩ 1 1 [.string s] hx rfl (fun j u hj=>?_) (fun u hu=>?_) (by simp only[maxLen];omega) (by omega) hB ?_
 ·rcases j with _ | j
  ·obtain rfl:Value.string s=u:=by simpa using hj
   exact hc
  ·simp at hj
 ·obtain rfl:u=.string s:=by simpa using hu
  rfl
 ·intro v' w' g1 g2 _ _;refine h v' w' ?_ g2;unfold NmO;rw[List.length_append,List.map_append];exact g1
theorem NmO.lt {B:Nat} {w:World} {v:Value} {l:List ByteArray} (h:NmO B w v l) {b:Nat} (hb:v.ownBlock=some b):B<=b/\b<w.heap.size:=by
 rcases h.2 with ⟨hv,-⟩ | ⟨g,cap,cur,hv,hB,hh,-⟩
 ·rw[hv] at hb;cases hb
 ·rw[hv] at hb;have e:some g=some b:=hb;injection e with e
  subst e;exact⟨hB,(Array.getElem?_eq_some_iff.1 hh).1⟩
theorem NmO.list {B:Nat} {w:World} {v:Value} {l:List ByteArray} (h:NmO B w v l) (hl:l.length<=1000000000000000):∃ A c,v=.slice A l.length c/\ListS w l A/\∀ b o,A=some ⟨b,o,none⟩->B<=b/\b<w.heap.size:=by
 rcases h.2 with ⟨hv,hn⟩ | ⟨g,cap,cur,hv,hB,hh,hle,hmax,hsz,htk⟩
 ·have e:l=[]:=List.eq_nil_of_length_eq_zero hn;subst e;exact⟨none,0,hv,⟨0,0,fun h=>absurd h (by simp),Nat.zero_le _,fun i h=>absurd h (by simp)⟩,fun b o e=>by cases e⟩
 ·refine⟨some ⟨g,0,none⟩,cap,hv,⟨g,0,fun _=>rfl,hl,fun i hi=>?_⟩,fun b o e=>by injection e with e;injection e with e _ _;subst e;exact⟨hB,(Array.getElem?_eq_some_iff.1 hh).1⟩⟩;have hy:(l.map Value.string)[i]?=some (.string l[i]):=by rw[List.getElem?_map,List.getElem?_eq_getElem hi];rfl
  rw[<-htk,List.getElem?_take] at hy
  split at hy
  ·rw[Nat.zero_add,Ch hh];simpa using hy
  ·cases hy
theorem NmO.keep {B:Nat} {w w':World} {v:Value} {l:List ByteArray} (h:NmO B w v l) (hk:∀ b,v.ownBlock=some b->w'.heap[b]?=w.heap[b]?):NmO B w' v l:=by
 refine⟨h.1,?_⟩;rcases h.2 with h3 | ⟨g,cap,cur,hv,hg,hh,r⟩
 ·exact .inl h3
 ·exact .inr ⟨g,cap,cur,hv,hg,by rw[hk g (by rw[hv];rfl)];exact hh,r⟩
theorem FillT.but {K O:Nat->Prop} {w w':World} {g q:Nat} {S:List Ty} (h:FillT K w g q S) (hb:ButG O w w') (hk:∀ b,K b->¬ O b) (hO:∀ x,O x->x<g):FillT K w' g q S:=
 have hg:¬ O g:=fun h=>Nat.lt_irrefl _ (hO g h)
 ⟨Nat.lt_of_lt_of_le h.lt hb.size,fun y hy=>by obtain⟨v,hv⟩:=h.cell y hy;exact⟨v,hb.cell hg hv⟩,fun y=>(World.frozen?_of_block (w:=w) (a:=⟨g,y,none⟩) (hb.block g h.lt hg)).trans (h.free y),
  fun i hi=>by obtain⟨cs,h1,h2⟩:=h.reps i hi;exact⟨cs,h1.but hb fun x hx=>⟨fun ho=>hx.elim (fun hx=>hk x hx ho) fun hx=>by have:=hO x ho;omega,hx⟩,fun j u hj=>hb.cell hg (h2 j u hj)⟩⟩
theorem Ot {O:Nat->Prop} {a w:World} {g:Nat} (h:ButG O a w) (hg:O g\/a.heap.size<=g) (y:Nat) (v0 v1 v2 v3 v4 v5:Value):ButG O a (Ei w g y v0 v1 v2 v3 v4 v5):=
 (((((h.set (p:=⟨g,y,none⟩) hg v0).set (p:=⟨g,y+1,none⟩) hg v1).set (p:=⟨g,y+2,none⟩) hg v2).set (p:=⟨g,y+3,none⟩) hg v3).set (p:=⟨g,y+4,none⟩) hg v4).set (p:=⟨g,y+5,none⟩) hg v5
theorem all_nil {wk:Nat} {w:World} {A:Option Addr} {c:Nat} {m:Option Nat} :
  Calls Tryz.prog 81 #[.pointer (some ⟨wk,0,none⟩),.slice A 0 c,.map m] w fun e w'=>e=.returned (.slice none 0 0)/\w'=w:=by
 go_enter Tryz.func81,Tryz.ntmps81;go_wp2_with fail;go_ret
 exact⟨rfl,rfl⟩
theorem P5 {n0:ByteArray} {u:Ty} {K Z:Nat->Prop} {wk sb nd:Nat} {w:World} {a:Nat} {m:Option Nat} {act:Bool} {l:List Ty} {A:Option Addr} {c:Nat} (hL:ListT K w l A c) (hl0:0<l.length) (hK:∀ x,K x->x<w.heap.size/\x≠sb/\x≠wk) (hE:EnvP wk sb n0 w m act) (hS:StaS K Z w sb u nd) (hZs:Z sb) (hZw:Z wk) (hZl:∀ x,Z x->x<w.heap.size) (hwk:w.heap[wk]?=some (.cells #[.int .i64 (a:Int)] 85 (0,0))) (hws:wk≠sb) (hct:a+An l<=4096) (hfm:∀ p∈l,Ab p=true/\Da p=true) (hnd:∀ p∈l,act=true->(nd=1/\Ai u=1)\/Bl n0 p=false) (ih:∀ p∈l,Lw n0 u p) :
  Calls Tryz.prog 81 #[.pointer (some ⟨wk,0,none⟩),.slice A l.length c,.map m] w (fun e w'=>∃ (A':Option Addr) (c':Nat),e=.returned (.slice A' l.length c')/\ListT (fun x=>K x\/w.heap.size<=x) w' (l.map fun p=>if act=true then Ak n0 u p else p) A' c'/\w'.heap[wk]?=some (.cells #[.int .i64 ((a+An l:Nat):Int)] 85 (0,0))/\StaS K Z w' sb u nd/\ButG (fun x=>x=sb\/x=wk) w w'):=by
 obtain⟨f,hf⟩:∃ f:Ty->Ty,f=fun p=>if act=true then Ak n0 u p else p:=⟨_,rfl⟩
 rw[<-hf];have hfp:∀ p,f p=if act=true then Ak n0 u p else p:=fun p=>by rw[hf]
 have hll:l.length<=1099511627776:=by have:=S4 l;omega
 obtain⟨g,hg⟩:∃ g,g=w.heap.size:=⟨_,rfl⟩;obtain⟨w2,hw2⟩:∃ x,x=w.alloc (.cells (madeCells Nl (l.length*6)) 26):=⟨_,rfl⟩;have hb2:Below w.heap.size w w2:=by rw[hw2];exact (Below.refl _ _).alloc (Nat.le_refl _) _
 have hf2:FillT K w2 g l.length []:=by rw[hw2,hg];exact FillT.start K w l.length
 have hmk:=S5 l.length hll;have hmw:wk<w.heap.size:=(Array.getElem?_eq_some_iff.1 hwk).1;have hsb:sb<w.heap.size:=hZl sb hZs;have HE:Hid (∀ wx,ButG (fun x=>x=sb\/x=wk) w wx->EnvP wk sb n0 wx m act):=Hd fun wx hx=>hE.but hx fun x h=>h.elim (fun e=>.inr (.inl e)) .inl;have HL:Hid (∀ wx,ButG (fun x=>x=sb\/x=wk) w wx->ListT K wx l A c):=Hd fun wx hx=>hL.but hx fun x hx=>⟨fun h=>h.elim (hK x hx).2.1 (hK x hx).2.2,hx⟩;have HS2:Hid (StaS K (fun x=>Z x\/x=g) w2 sb u nd):=Hd ((hS.more fun x h=>h.elim .inl fun e=>.inr (by omega)).but (ButG.of_below (O:=fun _=>False) hb2) (fun h=>h) (fun x h=>h.elim) fun _ _ h=>h);have HC2:=Hd (Bc hb2 hmw hwk);have HK:=Hd hK;have HZ:Hid (Z sb/\Z wk/\∀ x,Z x->x<g):=Hd ⟨hZs,hZw,fun x h=>by rw[hg];exact hZl x h⟩;have HWS:=Hd hws;have HCT:=Hd hct;have HFM:=Hd hfm;have HNDD:=Hd hnd;have HIH:=Hd ih;have HFP:=Hd hfp;have HG:=Hd hg;have HW2:=Hd hw2;have HB2:=Hd hb2;have HF2:=Hd hf2;have HML:Hid (wk<g/\sb<g):=Hd (by omega);have hlz:¬ l.length=0:=by omega
 have hlz2:¬ (l.length:Int)=0:=by omega
 clear hL hl0 hK hE hS hZs hZw hZl hwk hws hct hfm hnd ih hf hfp hg hw2 hb2 hf2 hmw hsb;go_enter Tryz.func81,Tryz.ntmps81;go_upto_region 4 with fail
 rw[<-HG.out,<-HW2.out];clear hmk;go_wp2_with fail
 go_loopw [17] (fun v wr=>∃ (i:Nat),i<=l.length/\v=.int .i64 i/\FillT K wr g l.length ((l.take i).map f)/\wr.heap[wk]?=some (.cells #[.int .i64 ((a+An (l.take i):Nat):Int)] 85 (0,0))/\StaS K (fun x=>Z x\/x=g) wr sb u nd/\ButG (fun x=>x=sb\/x=wk) w wr) (fun v _=>l.length - (intOf v).toNat)
 case atStart=>exact⟨0,by omega,rfl,by simpa using HF2.out,by simpa [An] using HC2.out,HS2.out,ButG.of_below HB2.out⟩
 case round=>
  obtain⟨i,hi,rfl,hfl,hcn,hst,hb⟩:=hrel;by_cases hin:i<l.length
  ·have t1:decide ((i:Int)<(l.length:Int))=true:=by simp;omega
   have wr2:wrap64 ((i:Int)+1)=((i+1:Nat):Int):=Ao (by omega);have HM:=Hd (Ba hin);have HIn:Hid (i+1<=l.length):=Hd hin;have HTake:Hid ((l.take (i+1)).map f=(l.take i).map f++[f l[i]]/\((l.take i).map f).length=i):=Hd ⟨by rw[List.take_succ_eq_append_getElem hin,List.map_append];rfl,by simp;omega⟩;obtain⟨b,o,hA,hKb,hat⟩:=(HL.out wr hb).at (by omega);subst hA;have hgw:=hfl.lt;have hnx:=Vj hin;have hle:=Se l (i+1);have hct:=HCT.out;have ko:=HIH.out l[i] (List.getElem_mem hin) K (fun x=>Z x\/x=g) wk sb nd wr b (o+i*6) m act (a+An (l.take i)) (hat i hin) ⟨(HK.out b hKb).2.1,(HK.out b hKb).2.2⟩ (fun x hx=>⟨Nat.lt_of_lt_of_le (HK.out x hx).1 hb.size,(HK.out x hx).2⟩) (HE.out wr hb) hst (.inl HZ.out.1) (.inl HZ.out.2.1) (fun x h=>h.elim (fun h=>Nat.lt_trans (HZ.out.2.2 x h) hgw) fun e=>by omega) hcn HWS.out (by omega) (HFM.out _ (List.getElem_mem hin)) (HNDD.out _ (List.getElem_mem hin));unfold Bx at ko;rw[<-HFP.out] at ko;have KO:=Hd ko;have HCN:Hid (a+An (l.take i)+Ai l[i]=a+An (l.take (i+1))):=Hd (by omega);have HFL:=Hd hfl;have HB:=Hd hb;generalize f l[i]=fi at HTake KO;generalize l[i]=p at HCN KO;have i1:(0:Int)<=(i:Int):=by omega
   have i2:(i:Int)<(l.length:Int):=by omega
   obtain⟨k4,s4,n4,ps4,fs4,vs4⟩:=fi;clear hat hi hfl hcn hst hb hgw hnx hle hct ko hKb;go_wp2_with fail;refine KO.out.mono ?_;rintro e w5 ⟨rs,rfl,hr5,hc5,hs5,hb5⟩;have hgr:=HFL.out.lt;have hf5:=HFL.out.but hb5 (fun b hb h=>h.elim (HK.out b hb).2.1 (HK.out b hb).2.2) (fun x h=>h.elim (fun e=>by have:=HML.out.2;omega) fun e=>by have:=HML.out.1;omega);have hr6:RepT (fun b=>K b\/g<b) w5 (.mk k4 s4 n4 ps4 fs4 vs4) rs:=hr5.weak fun b h=>h.imp id fun h=>by omega
   obtain⟨Aq,cq,Ag,cg,Ah,ch,rfl,-⟩:=hr6.inv;simp only[Ar] at hr6 ⊢;have hput:=hf5.put (fun b h=>by have:=(HK.out b h).1;have:=HG.out;omega) (by rw[HTake.out.2];exact hin) hr6;rw[HTake.out.2,<-HTake.out.1] at hput;have HPUT:=Hd hput;have hb6:ButG (fun x=>x=g) w5 (Ei w5 g (i*6) (.int .i64 k4) (.string s4) (.int .i64 n4) (.slice Aq ps4.length cq) (.slice Ag fs4.length cg) (.slice Ah vs4.length ch)):=Ot (O:=fun x=>x=g) (ButG.refl _ _) (.inl rfl) _ _ _ _ _ _ _;have HS6:=Hd (hs5.but hb6 (fun e=>by have h1:=HML.out.2;have e:sb=g:=e;omega) (fun x h=>.inl (.inr h)) fun x hx e=>by have h1:=(HK.out x hx).1;have h2:=HG.out;have e:x=g:=e;omega);have HC6:=Hd (hb6.up (fun e=>by have h1:=HML.out.1;have e:wk=g:=e;omega) hc5);have HB6:=Hd (Ot (g:=g) ((HB.out.trans hb5 fun x h=>.inl h):ButG (fun x=>x=sb\/x=wk) w w5) (.inr (Nat.le_of_eq HG.out.symm)) (i*6) (.int .i64 k4) (.string s4) (.int .i64 n4) (.slice Aq ps4.length cq) (.slice Ag fs4.length cg) (.slice Ah vs4.length ch));rw[HCN.out] at HC6;obtain⟨u0,q0⟩:=hf5.cell (i*6) (by omega);obtain⟨u1,q1⟩:=hf5.cell (i*6+1) (by omega);obtain⟨u2,q2⟩:=hf5.cell (i*6+2) (by omega);obtain⟨u3,q3⟩:=hf5.cell (i*6+3) (by omega);obtain⟨u4,q4⟩:=hf5.cell (i*6+4) (by omega);obtain⟨u5,q5⟩:=hf5.cell (i*6+5) (by omega);have y0:=hf5.free (i*6);have y1:=hf5.free (i*6+1);have y2:=hf5.free (i*6+2);have y3:=hf5.free (i*6+3);have y4:=hf5.free (i*6+4);have y5:=hf5.free (i*6+5);clear hr5 hr6 hf5 hc5 hs5 hb5 hb6 hput hgr KO;go_wp2_with fail;refine⟨⟨i+1,HIn.out,by first | rfl | rw[wr2],HPUT.out,HC6.out,HS6.out,HB6.out⟩,?f3⟩
   case f3=>first | exact HM.out | (rw[wr2];exact HM.out)
  ·have t1:decide ((i:Int)<(l.length:Int))=false:=by simp;omega
   have hfull:FillT K wr g (l.map f).length (l.map f):=by
    rw[List.take_of_length_le (by omega)] at hfl;rw[List.length_map];exact hfl
   have hlist:=hfull.list (by rw[List.length_map];omega);rw[List.length_map] at hlist;rw[List.take_of_length_le (by omega)] at hcn;have HFIN:Hid (∃ (A':Option Addr) (c':Nat),(Ending.returned (.slice (some ⟨g,0,none⟩) l.length l.length):Ending)=.returned (.slice A' l.length c')/\ListT (fun x=>K x\/w.heap.size<=x) wr (l.map f) A' c'/\wr.heap[wk]?=some (.cells #[.int .i64 ((a+An l:Nat):Int)] 85 (0,0))/\StaS K Z wr sb u nd/\ButG (fun x=>x=sb\/x=wk) w wr):=Hd ⟨_,_,rfl,by rw[<-HG.out];exact hlist,hcn,hst.more fun x h=>.inl (.inl h),hb⟩;clear hi hfl hcn hst hb hfull hlist;go_wp2_with fail;go_ret
   exact HFIN.out
theorem Uc (w:World) (a:Option Addr) (l c:Nat):(binOp .eql 46 (.slice a l c) (.slice none 0 0)).run Tryz.prog w=.ok (.bool a.isNone) w:=by
 simp[binOp,run_equal_slice_nil w 46 9 a l c Tryz.underlying46]
theorem Nu {w:World} {N:List ByteArray} {A:Option Addr} {c:Nat} (h:ListS w N A) (hn:N.length<=1000000) :
  Calls Tryz.prog 117 #[.slice A N.length c] w fun e w'=>∃ B d,e=.returned (.slice B N.length d)/\ListS w' N B/\(∀ b o,B=some ⟨b,o,none⟩->w.heap.size<=b)/\Below w.heap.size w w':=by
 cases A with
 | none=>
  obtain rfl:N=[]:=by
   obtain⟨b,o,hA,-⟩:=h;exact List.eq_nil_of_length_eq_zero (Nat.eq_zero_of_not_pos fun h=>by cases hA h)
  have hq:=Uc w none 0 c;simp only[Option.isNone_none] at hq;have HL:=Hd h;clear h hn;simp only[List.length_nil];go_enter Tryz.func117,Tryz.ntmps117;go_wp2_with fail;go_ret
  exact⟨none,0,rfl,HL.out,(fun b o e=>by cases e),Below.refl _ _⟩
 | some ad=>
  obtain⟨i0,hi0,hz0,hz1,hz2⟩:=D4 Ih;have HS:=Hd (Rz h);have HN:=Hd hn;have hq:=Uc w (some ad) N.length c;simp only[Option.isNone_some] at hq;clear h hn;go_enter Tryz.func117,Tryz.ntmps117;have HE:=Hd (World.ownsRow_lit (base:=w.heap.size) (e:=9) (size:=1) w #[] 0 (Nat.le_refl _) (by decide) rfl);go_wp2_with (at_builtin;go_loud (refine wpList_append_own _ rfl _ _ 46 rfl w.heap.size 9 i0 (.string ⟨#[]⟩) 1 16 Tryz.underlying46 hi0 hz0 hz1 hz2 rfl (by decide) _ _ _ rfl HE.out ad N.length c (N.map .string) rfl ?a0 ?a1 ?a2 ?a3 ?a4 ?a5 ?_))
  case a1=>exact fun j u hj=>Aa ((Below.refl _ _).alloc (Nat.le_refl _) _) (HS.out j (.string u) (by rw[List.getElem?_map,hj];rfl))
  case a2=>
   intro v hv;rfl
  case a3=>exact Nat.le_trans (by have:=HN.out;omega) (by decide:1000000<=maxLen)
  case a4=>have:=HN.out;omega
  intro v' w' hown hgrow _;have ho:OutS w.heap.size w' v' N:=by
   unfold OutS;simpa using hown
  have hb:Below w.heap.size w w':=((Below.refl w.heap.size w).alloc (Nat.le_refl _) (.cells #[] 9)).grown hgrow (by simp) (fun k hk=>by simp[Value.ownBlock] at hk;omega);obtain⟨B,d,rfl,hl⟩:=ho.list (by have:=HN.out;omega);have HL:=Hd hl;have HB:=Hd hb;have HF:Hid (∀ b o,B=some ⟨b,o,none⟩->w.heap.size<=b):=Hd fun b o e=>by
   subst e;exact (World.ownsRow.lt ho b rfl).1
  clear hown hgrow ho hl hb
  go_wp2
  go_ret
  exact⟨B,d,rfl,HL.out,HF.out,HB.out⟩
theorem Jew {n0:ByteArray} {u:Ty} {K Z:Nat->Prop} {wk sb nd:Nat} {w:World} {bp op a:Nat} {m:Option Nat} {n:Int} {ps:List Ty} {fs:Bp} {vs:Bm} (ha:AtT K w (.mk 16 n0 n ps fs vs) bp op) (hbp:bp≠sb/\bp≠wk) (hK:∀ x,K x->x<w.heap.size/\x≠sb/\x≠wk) (hE:EnvP wk sb n0 w m true) (hS:StaS K Z w sb u nd) (hZw:Z wk) (hwk:w.heap[wk]?=some (.cells #[.int .i64 (a:Int)] 85 (0,0))) (hws:wk≠sb) (hct:a+Ai (.mk 16 n0 n ps fs vs)<=4096) (hfm:Ab (.mk 16 n0 n ps fs vs)=true) (hnd:nd=1) :
  Calls Tryz.prog 43 #[.pointer (some ⟨wk,0,none⟩),.pointer (some ⟨bp,op,none⟩),.map m] w (Bx n0 u K Z wk sb nd w true a (.mk 16 n0 n ps fs vs)):=by
 have hcnt:Ai (.mk 16 n0 n ps fs vs)=1:=by
  obtain⟨l1,l2,-,-⟩:=D8 hfm;have e1:ps=[]:=List.eq_nil_of_length_eq_zero ((Pe (Db hfm)).2.2 rfl);have e2:fs=[]:=List.eq_nil_of_length_eq_zero (l1 (by decide));have e3:vs=[]:=List.eq_nil_of_length_eq_zero (l2 (by decide));rw[e1,e2,e3,Br];rfl
 obtain⟨PO,hPO⟩:∃ PO:Ending->World->Prop,PO=Bx n0 u K Z wk sb nd w true a (.mk 16 n0 n ps fs vs):=⟨_,rfl⟩;have HFIN:Hid (∀ e w',(∃ rs:List Value,e=.returned (.agg rs.toArray)/\RepT (fun x=>K x\/w.heap.size<=x) w' u rs/\w'.heap[wk]?=some (.cells #[.int .i64 ((a+1:Nat):Int)] 85 (0,0))/\StaS K Z w' sb u nd/\ButG (fun x=>x=sb\/x=wk) w w')->PO e w'):=Hd fun e w' h=>by
  rw[hPO];unfold Bx;rw[if_pos rfl,Cr,if_pos (by simp),hcnt];exact h
 rw[<-hPO];have hmw:wk<w.heap.size:=(Array.getElem?_eq_some_iff.1 hwk).1;have HST:=Hd hS;obtain⟨es,fv,kn,hx,hru,-⟩:=hS.ex;have hsb:sb<w.heap.size:=(Array.getElem?_eq_some_iff.1 hx).1;refine Hy ha hbp hK ⟨hmw,hsb⟩ fun A c B d C e w1 g h=>?_;obtain⟨HX,HY,HB1,HS1,HG,HW1,HP,HFS,HVS,HTS,HMG,HRP⟩:=h;obtain⟨k4,s4,n4,ps4,fs4,vs4⟩:=u;obtain⟨A4,c4,B4,d4,C4,e4,rfl,-⟩:=hru.inv;simp only[Ar,List.cons_append,List.nil_append] at hx hru;have HRU:=Hd hru;have HC1:=Hd (Bc HB1.out hmw hwk);have hx1:w1.heap[sb]?=some (.cells #[.int .i64 k4,.string s4,.int .i64 n4,.slice A4 ps4.length c4,.slice B4 fs4.length d4,.slice C4 vs4.length e4,.int .i64 (nd:Int),fv,.bool kn] 120 (0,0)):=Bc HB1.out hsb hx;have HU:Hid (∀ wx,ButG (fun x=>x=wk) w1 wx->(wx.cell? ⟨sb,0,none⟩=some (.int .i64 k4)/\wx.cell? ⟨sb,1,none⟩=some (.string s4)/\wx.cell? ⟨sb,2,none⟩=some (.int .i64 n4)/\wx.cell? ⟨sb,3,none⟩=some (.slice A4 ps4.length c4)/\wx.cell? ⟨sb,4,none⟩=some (.slice B4 fs4.length d4)/\wx.cell? ⟨sb,5,none⟩=some (.slice C4 vs4.length e4)/\wx.cell? ⟨sb,6,none⟩=some (.int .i64 (nd:Int)))):=Hd fun wx hw=>by
  have h:=hw.up (fun e=>hws e.symm) hx1;exact⟨Ch h 0,Ch h 1,Ch h 2,Ch h 3,Ch h 4,Ch h 5,Ch h 6⟩
 have HKK:=Hd hK;have HWS:=Hd hws;have HZW:=Hd hZw;have hE1:=hE.but (ButG.of_below (O:=fun _=>False) HB1.out) fun _ h=>h.elim;obtain⟨z,hz,hz2⟩:=hE1.len;have f1:¬ z=0:=of_decide_eq_false hz2;have lk:=hE1.look n0 (Nat.le_trans HTS.out (by decide));rw[show (true && decide (n0=n0))=true by simp,if_pos rfl] at lk;obtain⟨n1,hn1⟩:∃ n1,n1=a+nd:=⟨_,rfl⟩;have w12:wrap64 ((a:Int)+(nd:Int))=(n1:Int):=by rw[Cf (by omega) (by omega)];omega
 have v12:IntKind.i64.wrap ((a:Int)+(nd:Int))=(n1:Int):=(Hp _).trans w12;have HN1:Hid (n1=a+1):=Hd (by omega);have c0:=Ch HC1.out 0;simp only[List.getElem?_toArray,List.getElem?_cons_zero] at c0;have t1:decide ((4096:Int)<(a:Int))=false:=decide_eq_false (by omega);have t1':¬ (4096:Int)<(a:Int):=by omega
 have t1'':¬ 4096<a:=by omega
 obtain⟨x0,x1,x2,x3,x4,x5⟩:=HX.out w1 (ButG.refl _ _);clear ha hbp hK hE hS hZw hwk hws hct hmw hsb hPO hz2 hn1 hE1 hx hx1 hru hnd hcnt hfm;go_enter Tryz.func43,Tryz.ntmps43;go_upto_region 1 with fail
 rw[<-HW1.out,<-HG.out];go_upto_region 8 with fail
 clear c0 hz lk x0 x1 x2 x3 x4 x5;refine wp_region_held_drew (S:=(fun w'=>(w'.cell? ⟨sb,0,none⟩=some (.int .i64 k4)/\w'.cell? ⟨sb,1,none⟩=some (.string s4)/\w'.cell? ⟨sb,2,none⟩=some (.int .i64 n4)/\w'.cell? ⟨sb,3,none⟩=some (.slice A4 ps4.length c4)/\w'.cell? ⟨sb,4,none⟩=some (.slice B4 fs4.length d4)/\w'.cell? ⟨sb,5,none⟩=some (.slice C4 vs4.length e4)/\w'.cell? ⟨sb,6,none⟩=some (.int .i64 (nd:Int))))) (by kernel_rfl) (HU.out _ (ButG.of_below (Below.refl _ _).drew)) (fun hHeld=>?_);refine Plan.start [0,1,2,4,5,6,7] ?_
 iterate 7 (refine Plan.tk (so rfl) hHeld ?_;try simp only[Act.put,Ax,Ay,Az])
 refine Plan.done ?_;have v3:World.cell? (World.drew w1) ⟨wk,0,none⟩=some (.int .i64 a):=by rw[Ch (show (World.drew w1).heap[wk]?=_ from HC1.out)];rfl
 have v4:=Lib.frozen_of_heap (show (World.drew w1).heap[wk]?=_ from HC1.out) 0;refine wpAnyH_ready (rs:=[3]) (by kernel_rfl) (by simp) ?_;refine AllReadyH.cons (sd (some 58) rfl) (fun Kx hK=>?_) AllReadyH.nil;go_simp;refine hK.out _ _ (HU.out _ (ButG.of_below (Below.refl _ _).drew)) (fun hHeld=>?_);clear hK Kx;try simp only[Act.put,Ax,Ay,Az]
 refine Plan.start [8,9,10] ?_
 iterate 3 (refine Plan.tk (so rfl) hHeld ?_;try simp only[Act.put,Ax,Ay,Az])
 refine Plan.done ?_;refine wpAnyH_ready (rs:=[11]) (by kernel_rfl) (by simp) ?_;refine AllReadyH.cons (sd none rfl) (fun Kx hK=>?_) AllReadyH.nil;go_simp;clear v3 v4;obtain⟨w6,hw6⟩:∃ x,x=(w1.setCell ⟨wk,0,none⟩ (.int .i64 (n1:Int))).drew:=⟨_,rfl⟩;have hb6':ButG (fun x=>x=wk) w1 w6:=by rw[hw6];exact ((ButG.refl (fun x=>x=wk) w1).put1 0 _).then (Below.refl _ _).drew
 have hb6:ButG (fun x=>x=sb\/x=wk) w1 w6:=hb6'.mono fun x h=>.inr h;have hc6:w6.heap[wk]?=some (.cells #[.int .i64 (n1:Int)] 85 (0,0)):=by rw[hw6];exact Co HC1.out 0 _
 have HB6:=Hd hb6;have HB6':=Hd hb6';have HC6:=Hd hc6;rw[<-hw6];clear hw6 hb6 hb6' hc6;refine hK.out _ _ (HU.out _ HB6'.out) (fun hHeld=>?_);clear hK Kx;try simp only[Act.put,Ax,Ay,Az]
 refine wpAnyH_done (by kernel_rfl) ?_ _;clear hHeld;obtain⟨x0,x1,x2,x3,x4,x5,-⟩:=HU.out _ HB6'.out;have rb:=HY.out w6 HB6.out;go_upto_region 9 with fail
 obtain⟨q0,q1,q2,q3,q4,q5,z0,z1,z2,z3,z4,z5⟩:=Jp rb;have RBX:=Hd rb;clear rb;go_wp2_with fail;obtain⟨r0,r1,r2,r3,r4,r5⟩:=Fs (B5 RBX.out (.int .i64 k4) (.string s4) (.int .i64 n4) (.slice A4 ps4.length c4) (.slice B4 fs4.length d4) (.slice C4 vs4.length e4));clear q0 q1 q2 q3 q4 q5 z0 z1 z2 z3 z4 z5;refine bodyPost_ret (v:=.agg #[.int .i64 k4,.string s4,.int .i64 n4,.slice A4 ps4.length c4,.slice B4 fs4.length d4,.slice C4 vs4.length e4]) (by simp[results,Tryz.results43,go_sem,r0,r1,r2,r3,r4,r5]) rfl ?_;clear r0 r1 r2 r3 r4 r5;have HSB:=Cu w6 g (.int .i64 k4) (.string s4) (.int .i64 n4) (.slice A4 ps4.length c4) (.slice B4 fs4.length d4) (.slice C4 vs4.length e4);have h1:=HN1.out;have h2:=HMG.out;have h3:=HG.out;have h4:ButG (fun x=>x=wk) w _:=((ButG.of_below (O:=fun x=>x=wk) HB1.out).trans HB6'.out fun x hx=>.inl hx).trans HSB fun x hx=>.inr (by omega);refine HFIN.out _ _ ⟨[.int .i64 k4,.string s4,.int .i64 n4,.slice A4 ps4.length c4,.slice B4 fs4.length d4,.slice C4 vs4.length e4],rfl,?_,by rw[<-h1];exact HSB.up (by show ¬ wk=g;omega) HC6.out,?_,Dl HB1.out HB6.out HG.out HSB⟩
 ·exact HRU.out.but h4 fun x hx=>⟨fun e=>(HKK.out x hx).2.2 e,.inl hx⟩
 ·exact HST.out.but h4 (fun h=>HWS.out h.symm) (fun x h=>.inl (h ▸ HZW.out)) fun x hx=>(HKK.out x hx).2.2
end Go.Proofs.YtlpfpehegddcfaaGreatDoor
