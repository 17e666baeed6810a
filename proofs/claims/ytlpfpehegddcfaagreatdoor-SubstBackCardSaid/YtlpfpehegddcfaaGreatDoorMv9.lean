import Derived.Test.YtlpfpehegddcfaaGreatDoorMv7
import Derived.Test.YtlpfpehegddcfaaGreatDoorMv8
namespace Go.Proofs.YtlpfpehegddcfaaGreatDoor
set_option maxRecDepth 100000
set_option maxHeartbeats 64000000
open Go.RowKit
def M7 (x y:Bool):Int:=if x then -1 else if y then 1 else 0
theorem Cn (x y:Bool) (w:World):Calls Tryz.prog 44 #[.bool x,.bool y] w fun e w'=>e=.returned (.int .i64 (M7 x y))/\w'=w:=by
 cases x <;> cases y
 all_goals
  go_enter Tryz.func44,Tryz.ntmps44;go_wp2_with fail;go_ret
  exact⟨rfl,rfl⟩
theorem F9 (x y:Int):(x<y/\¬ y<x/\De x y = -1)\/(¬ x<y/\y<x/\De x y=1)\/(¬ x<y/\¬ y<x/\De x y=0):=by
 unfold De;by_cases h:x<y
 ·exact .inl ⟨h,by omega,by rw[if_pos h]⟩
 ·by_cases h2:y<x
  ·exact .inr (.inl ⟨h,h2,by rw[if_neg h,if_pos h2]⟩)
  ·exact .inr (.inr ⟨h,h2,by rw[if_neg h,if_neg h2]⟩)
theorem G7 (x y:ByteArray):(Op.bytesLess x.toList y.toList=true/\(x.toList == y.toList)=false/\Dj x y = -1)\/(Op.bytesLess x.toList y.toList=false/\(x.toList == y.toList)=false/\Dj x y=1)\/(Op.bytesLess x.toList y.toList=false/\(x.toList == y.toList)=true/\Dj x y=0):=by
 have h1:=Mp x y;have h2:=Uo x y;unfold Dj;by_cases h:x.data.toList<y.data.toList
 ·refine .inl ⟨by rw[h1];simpa using h,?_,by rw[if_pos h]⟩;rw[ByteArray.toList_eq,ByteArray.toList_eq];exact beq_eq_false_iff_ne.2 fun e=>List.lt_irrefl _ (e ▸ h)
 ·have e1:Op.bytesLess x.toList y.toList=false:=by rw[h1];simpa using h
  rw[e1,Bool.false_or] at h2;by_cases h3:y.data.toList<x.data.toList
  ·refine .inr (.inl ⟨e1,?_,by rw[if_neg h,if_pos h3]⟩);have:(!(x.toList == y.toList))=true:=by rw[h2];simpa using h3
   simpa using this
  ·refine .inr (.inr ⟨e1,?_,by rw[if_neg h,if_neg h3]⟩);have:(!(x.toList == y.toList))=false:=by rw[h2];simpa using h3
   simpa using this
def O2 (t:Ty):Prop:=∀ (K K':Nat->Prop) (t':Ty) (w:World) (cs cs':List Value),RepT K w t cs->RepT K' w t' cs'->Calls Tryz.prog 20 #[.agg cs.toArray,.agg cs'.toArray] w fun e w'=>e=.returned (.int .i64 (Bt t t'))/\Gw w w'
theorem AtT.six2 {K:Nat->Prop} {w:World} {t:Ty} {b o:Nat} (h:AtT K w t b o):∃ x0 x1 x2 x3 x4 x5 x6 x7 x8 x9 xa xb,(w.cell? ⟨b,o,none⟩=some (.int .i64 x0)/\w.cell? ⟨b,o+1,none⟩=some (.string x1)/\w.cell? ⟨b,o+2,none⟩=some (.int .i64 x2)/\w.cell? ⟨b,o+3,none⟩=some (.slice x3 x4 x5)/\w.cell? ⟨b,o+4,none⟩=some (.slice x6 x7 x8)/\w.cell? ⟨b,o+5,none⟩=some (.slice x9 xa xb))/\RepT K w t [.int .i64 x0,.string x1,.int .i64 x2,.slice x3 x4 x5,.slice x6 x7 x8,.slice x9 xa xb]:=by
 obtain⟨k,s,n,A,lp,c,A',lf,c',A'',lv,c'',hr,e0,e1,e2,e3,e4,e5⟩:=h.vals;exact⟨k,s,n,A,lp,c,A',lf,c',A'',lv,c'',⟨e0,e1,e2,e3,e4,e5⟩,hr⟩
theorem Rk (l l':List (Ty)) (h:∀ p∈l,O2 p) {K K':Nat->Prop} {w:World} {A A':Option Addr} {c c':Nat} (h1:ListT K w l A c) (h2:ListT K' w l' A' c') :
  Calls Tryz.prog 45 #[.slice A l.length c,.slice A' l'.length c'] w fun e w'=>e=.returned (.int .i64 (Bv (E4 flat l) (E4 flat l')))/\Gw w w':=by
 have H1:=Hd h1;have H2:=Hd h2;have HI:=Hd h;have hl1:l.length<=1000000000000000:=by obtain⟨_,_,hr,_⟩:=h1;exact hr.big
 have hl2:l'.length<=1000000000000000:=by obtain⟨_,_,hr,_⟩:=h2;exact hr.big
 clear h h1 h2;by_cases heq:l.length=l'.length
 ·rw[G0 flat heq];generalize hres:Ct flat l l' 0=res;have HRES:=Hd hres;have HEQ:=Hd heq;rw[<-heq];have hirr:¬ l.length<l.length:=Nat.lt_irrefl _;clear hres heq hl2;go_enter Tryz.func45,Tryz.ntmps45;go_wp2_with fail;refine (Cn _ _ _).mono ?_;rintro e w1 ⟨rfl,rfl⟩;simp only[M7];go_wp2_with fail
  go_loopw [5,6] (fun vc vi wr=>∃ (cc:Int) (i:Nat),i<=l.length/\vc=.int .i64 cc/\vi=.int .i64 i/\Fe cc (Ct flat l l' i)=res/\Gw w1 wr) (fun _ vi _=>l.length - (intOf vi).toNat)
  case atStart=>exact⟨0,0,by omega,by first | rfl | simp,rfl,by rw[Bj];exact HRES.out,Gw.refl _⟩
  case round=>
   obtain⟨cc,i,hi,rfl,rfl,ho,hb⟩:=hrel;have HO:=Hd ho;have HB:=Hd hb;clear ho;by_cases hcc:cc=0
   ·subst hcc;by_cases hin:i<l.length
    ·have t1:decide ((i:Int)<(l.length:Int))=true:=(by simp;omega);have wr2:wrap64 ((i:Int)+1)=((i+1:Nat):Int):=Ao (by omega);have HM:=Hd (Ba hin);have hin':i<l'.length:=(by rw[<-HEQ.out];exact hin);have hstep:=F7 flat Jr HEQ.out hin hin';have hval:Fe (Bv (flat l[i]) (flat l'[i])) (Ct flat l l' (i+1))=res:=(by rw[<-hstep,<-Bj (Ct flat l l' i)];exact HO.out);obtain⟨b,o,hA,_,hat⟩:=H1.out.at (by omega);obtain⟨b',o',hA',_,hat'⟩:=H2.out.at (by omega);subst hA hA';have i0:(0:Int)<=(i:Int):=(by omega);have i1:(i:Int)<(l.length:Int):=(by omega);clear hstep;have HLE:Hid (i+1<=l.length):=Hd hin;obtain⟨p0,p1,p2,p3,p4,p5,p6,p7,p8,p9,pa,pb,hp,hrp⟩:=((hat i hin).later hb.below).six2;obtain⟨q0,q1,q2,q3,q4,q5,q6,q7,q8,q9,qa,qb,hq,hrq⟩:=((hat' i hin').later hb.below).six2;have KO:Hid (∀ wx,Below wr.heap.size wr wx->Calls Tryz.prog 20 #[.agg #[.int .i64 p0,.string p1,.int .i64 p2,.slice p3 p4 p5,.slice p6 p7 p8,.slice p9 pa pb],.agg #[.int .i64 q0,.string q1,.int .i64 q2,.slice q3 q4 q5,.slice q6 q7 q8,.slice q9 qa qb]] wx fun e w'=>e=.returned (.int .i64 (Bt (l[i]'hin) (l'[i]'hin')))/\Gw wx w'):=Hd fun wx hx=>HI.out _ (List.getElem_mem hin) K K' (l'[i]'hin') wx _ _ (hrp.later hx) (hrq.later hx);have HC:Hid (∀ wx,Below wr.heap.size wr wx->(wx.cell? ⟨b,o+i*6,none⟩=some (.int .i64 p0)/\wx.cell? ⟨b,o+i*6+1,none⟩=some (.string p1)/\wx.cell? ⟨b,o+i*6+2,none⟩=some (.int .i64 p2)/\wx.cell? ⟨b,o+i*6+3,none⟩=some (.slice p3 p4 p5)/\wx.cell? ⟨b,o+i*6+4,none⟩=some (.slice p6 p7 p8)/\wx.cell? ⟨b,o+i*6+5,none⟩=some (.slice p9 pa pb))/\wx.cell? ⟨b',o'+i*6,none⟩=some (.int .i64 q0)/\wx.cell? ⟨b',o'+i*6+1,none⟩=some (.string q1)/\wx.cell? ⟨b',o'+i*6+2,none⟩=some (.int .i64 q2)/\wx.cell? ⟨b',o'+i*6+3,none⟩=some (.slice q3 q4 q5)/\wx.cell? ⟨b',o'+i*6+4,none⟩=some (.slice q6 q7 q8)/\wx.cell? ⟨b',o'+i*6+5,none⟩=some (.slice q9 qa qb)):=Hd fun wx hx=>⟨⟨Aa hx hp.1,Aa hx hp.2.1,Aa hx hp.2.2.1,Aa hx hp.2.2.2.1,Aa hx hp.2.2.2.2.1,Aa hx hp.2.2.2.2.2⟩,⟨Aa hx hq.1,Aa hx hq.2.1,Aa hx hq.2.2.1,Aa hx hq.2.2.2.1,Aa hx hq.2.2.2.2.1,Aa hx hq.2.2.2.2.2⟩⟩;have hval2:Fe (Bt (l[i]'hin) (l'[i]'hin')) (Ct flat l l' (i+1))=res:=hval;have HV:=Hd hval2;generalize Bt (l[i]'hin) (l'[i]'hin')=oo at KO HV;clear hat hat' hp hq hrp hrq hval hval2 hi hb;go_wp2_with fail;refine wp_region_held_drew (S:=(fun w'=>(w'.cell? ⟨b,o+i*6,none⟩=some (.int .i64 p0)/\w'.cell? ⟨b,o+i*6+1,none⟩=some (.string p1)/\w'.cell? ⟨b,o+i*6+2,none⟩=some (.int .i64 p2)/\w'.cell? ⟨b,o+i*6+3,none⟩=some (.slice p3 p4 p5)/\w'.cell? ⟨b,o+i*6+4,none⟩=some (.slice p6 p7 p8)/\w'.cell? ⟨b,o+i*6+5,none⟩=some (.slice p9 pa pb))/\w'.cell? ⟨b',o'+i*6,none⟩=some (.int .i64 q0)/\w'.cell? ⟨b',o'+i*6+1,none⟩=some (.string q1)/\w'.cell? ⟨b',o'+i*6+2,none⟩=some (.int .i64 q2)/\w'.cell? ⟨b',o'+i*6+3,none⟩=some (.slice q3 q4 q5)/\w'.cell? ⟨b',o'+i*6+4,none⟩=some (.slice q6 q7 q8)/\w'.cell? ⟨b',o'+i*6+5,none⟩=some (.slice q9 qa qb))) (by kernel_rfl) (HC.out _ (Below.refl _ _).drew) (fun hHeld=>?_);refine Plan.start [0,1,2,3,4,5,6,7] ?_
     iterate 8 (refine Plan.tk (so rfl) hHeld ?_;try simp only[Act.put,Ax,Ay,Az])
     refine Plan.done ?_;refine wpAnyH_ready (rs:=[8]) (by kernel_rfl) (by simp) ?_;refine AllReadyH.cons (sd (some 36) rfl) (fun K hK=>?_) AllReadyH.nil;go_simp;refine (KO.out _ (Below.refl _ _).drew).mono ?_;rintro e w2 ⟨rfl,hb2⟩;have HB2:=Hd ((Below.refl wr.heap.size wr).drew.trans hb2.below);have HG2:=Hd ((HB.out.drew).trans hb2);clear hb2;go_wp2_with fail;refine hK.out _ _ (HC.out _ HB2.out) (fun hHeld=>?_);clear hK K;try simp only[Act.put,Ax,Ay,Az]
     refine Plan.start [9] ?_;refine Plan.tk (so rfl) hHeld ?_;try simp only[Act.put,Ax,Ay,Az]
     refine Plan.done ?_;refine wpAnyH_done (by kernel_rfl) ?_ _;clear hHeld;clear i0 i1 t1;go_wp2_with fail;refine⟨⟨oo,i+1,HLE.out,by first | rfl | trivial,by first | rfl | rw[wr2],HV.out,HG2.out⟩,?_⟩;first | exact HM.out | (rw[wr2];exact HM.out)
    ·have t1:decide ((i:Int)<(l.length:Int))=false:=(by simp;omega);have HR:Hid (res=0):=Hd (by
      have h:=HO.out;rw[show i=l.length from by omega,Gz flat HEQ.out,Bj] at h;exact h.symm)
     clear hi hb;go_wp2_with fail;go_ret
     exact⟨by rw[HR.out];rfl,HB.out⟩
   ·have hc0:(cc == 0)=false:=(by simpa using hcc);have HR:Hid (res=cc):=Hd (by rw[<-HO.out,Dg hcc]);clear hi hb hcc;go_wp2_with fail;go_ret
    exact⟨by rw[HR.out];rfl,HB.out⟩
 ·rw[Ij flat heq];rcases F9 (l.length:Int) (l'.length:Int) with ⟨ha,hb,he⟩ | ⟨ha,hb,he⟩ | ⟨ha,hb,he⟩
  ·have HE:=Hd he;have n1:l.length<l'.length:=by omega
   have n2:¬ l'.length<l.length:=by omega
   clear he heq ha hb;go_enter Tryz.func45,Tryz.ntmps45;go_wp2_with fail;refine (Cn _ _ _).mono ?_;rintro e w1 ⟨rfl,rfl⟩;simp only[M7];go_wp2_with fail
   go_loopw [5,6] (fun vc _ wr=>vc=.int .i64 (-1)/\wr=w1) (fun _ _ _=>0)
   case atStart=>exact⟨by first | rfl | simp,rfl⟩
   case round=>
    obtain⟨rfl,rfl⟩:=hrel;go_wp2_with fail;go_ret
    exact⟨by rw[HE.out];rfl,Gw.refl _⟩
  ·have HE:=Hd he;have n1:¬ l.length<l'.length:=by omega
   have n2:l'.length<l.length:=by omega
   clear he heq ha hb;go_enter Tryz.func45,Tryz.ntmps45;go_wp2_with fail;refine (Cn _ _ _).mono ?_;rintro e w1 ⟨rfl,rfl⟩;simp only[M7];go_wp2_with fail
   go_loopw [5,6] (fun vc _ wr=>vc=.int .i64 (1)/\wr=w1) (fun _ _ _=>0)
   case atStart=>exact⟨by first | rfl | simp,rfl⟩
   case round=>
    obtain⟨rfl,rfl⟩:=hrel;go_wp2_with fail;go_ret
    exact⟨by rw[HE.out];rfl,Gw.refl _⟩
  ·exact absurd heq (by omega)
theorem Nk {P:Program} {w:World} {o:Oper} {a:Act} {K:Act->World->Prop} {Q:Exit->Act->World->Prop} (s x:Operand) (t:TypeId)
  (ho:o.op=.call { callee:=.builtin .append,args:=#[s,x],argTypes:=#[t,t] })
  (e:TypeId) (i:TypeInfo) (size:Nat) (ht:P.underlying t=some (.slice e)) (hi:P.info? e=some i) (hsize:i.size=size)
  (b off n cap:Nat) (hs:a.eval s=.slice (some ⟨b,off,none⟩) n cap)
  (ad:Addr) (m c:Nat) (news:List Value) (hx:a.eval x=.slice (some ad) m c) (hl:news.length=m*size) (hnews:∀ j u,news[j]?=some u->w.cell? (ad.add j)=some u) (h1:∀ u∈news,u.oneCell'=true)
  (hroom:n+m<=cap) (oo:Nat) (hoo:oo=off+n*size) (hspare:∀ j,j<news.length->(w.cell? ⟨b,oo+j,none⟩).isSome=true/\w.frozen? ⟨b,oo+j,none⟩=false)
  (h:K (a.put o.dst (.slice (some ⟨b,off,none⟩) (n+m) cap)) (w.setCells b oo news)) :
  Oper.wp P o a w K Q:=by
 subst hsize;subst hoo;have hrun:=run_append_room_cells (P:=P) w t o.type e i ht hi b off n cap ad m c news hl hnews h1 hroom (fun j hj=>(hspare j hj).1) (fun j hj=>(hspare j hj).2);unfold Oper.wp execOp;simp only[ho,resolve,invoke,builtin,Sem.run_bind,Sem.run_pure,Result.andThen_ok,List.map_toArray,List.map_cons,List.map_nil,hs,hx,hrun];exact h
theorem B5 {W:World} {b:Nat} {T:TypeId} {x0 x1 x2 x3 x4 x5:Value} (h:W.heap[b]?=some (.cells #[x0,x1,x2,x3,x4,x5] T (0,0))) (y0 y1 y2 y3 y4 y5:Value) :
  ((((((W.setCell ⟨b,0,none⟩ y0).setCell ⟨b,1,none⟩ y1).setCell ⟨b,2,none⟩ y2).setCell ⟨b,3,none⟩ y3).setCell ⟨b,4,none⟩ y4).setCell ⟨b,5,none⟩ y5).heap[b]?=some (.cells #[y0,y1,y2,y3,y4,y5] T (0,0)):=by
 have h0:=Go.heap_setCell_same W b 0 _ _ y0 h;have h1:=Go.heap_setCell_same _ b 1 _ _ y1 h0;have h2:=Go.heap_setCell_same _ b 2 _ _ y2 h1;have h3:=Go.heap_setCell_same _ b 3 _ _ y3 h2;have h4:=Go.heap_setCell_same _ b 4 _ _ y4 h3;exact Go.heap_setCell_same _ b 5 _ _ y5 h4
theorem Hm {g b:Nat} (hb:b≠g):∀ (vs:List Value) (o:Nat) (w:World),(w.setCells g o vs).heap[b]?=w.heap[b]?
 | [],_,_=>rfl
 | v :: vs,o,w=>by
  show ((w.setCell ⟨g,o,none⟩ v).setCells g (o+1) vs).heap[b]?=_;rw[Hm hb vs (o+1),Below.heap_setCell _ _ _ _ hb]
theorem Ds {g B:Nat} {a:World} (hg:B<=g):∀ (vs:List Value) (o:Nat) (w:World),Below B a w->Below B a (w.setCells g o vs)
 | [],_,_,h=>h
 | v :: vs,o,w,h=>Ds hg vs (o+1) (w.setCell ⟨g,o,none⟩ v) (h.setCell hg v)
theorem KeepR.next {K:Nat->Prop} {w1 wr w':World} {gk g c:Nat} {h:Kinds} {ts:List Ty} {i:Nat} {F:List Ty} (r:KeepR K w1 wr gk g c h ts i F) (hi:i<ts.length) (hk:Cx h ts[i]=false) (hb:Below wr.heap.size wr w'):KeepR K w1 w' gk g c h ts (i+1) F:=by
 have hgl:gk<wr.heap.size:=(Array.getElem?_eq_some_iff.1 r.kb).1;refine⟨hi,?_,?_,r.below.trans (hb.mono r.below.size),r.row.later hb⟩
 ·rw[Kq hi,hk,r.f];simp
 ·unfold KB;rw[hb.block _ hgl];exact r.kb
theorem KeepR.push {K:Nat->Prop} {w1 wr wy:World} {gk g c:Nat} {h:Kinds} {ts:List Ty} {i:Nat} {F:List Ty} {cs:List Value} (r:KeepR K w1 wr gk g c h ts i F) (hi:i<ts.length) (hk:Cx h ts[i]=true) (hb:Below wr.heap.size wr wy) (hg:w1.heap.size<=g) (ht:RepT K w1 ts[i] cs) :
  KeepR K w1 (wy.setCells g (F.length*6) cs) gk g c h ts (i+1) (F++[ts[i]]):=by
 have hgl:gk<wr.heap.size:=(Array.getElem?_eq_some_iff.1 r.kb).1;have hne:gk≠g:=by
  rintro rfl;obtain⟨cur,h1,_⟩:=r.row.blk;rw[r.kb] at h1;injection h1 with h1
  injection h1 with _ h1
  exact absurd h1 (by decide)
 have hf:=r.fle;refine⟨hi,?_,?_,Ds hg cs _ _ (r.below.trans (hb.mono r.below.size)),(r.row.later hb).put (by omega) ht⟩
 ·rw[Kq hi,hk,r.f];simp
 ·unfold KB;rw[Hm hne,hb.block _ hgl];exact r.kb
theorem InT.pre {K:Nat->Prop} {w0 w:World} {g c:Nat} {F R:List Ty} (h:InT K w0 w g c (F++R)):InT K w0 w g c F:=by
 have:=h.le;rw[List.length_append] at this;refine⟨by omega,h.mx,h.blk,fun i t hi=>h.reps i t ?_⟩;rw[List.getElem?_append_left (List.getElem?_eq_some_iff.1 hi).1];exact hi
def P0 (l:List Ty) (i:Nat):Bool:=match l[i]? with
 | none=>true
 | some t=>!(t.k == 15) && (match i with | 0=>true | j+1=>match l[j]? with | none=>true | some p=>decide (Bt p t<0))
def Hi (l:List Ty):Bool:=(List.range l.length).all (P0 l) && l.all (Cx (Bs l))
theorem Jc9 {l:List Ty} {i:Nat}:(∀ j,j<i+1->P0 l j=true)↔(∀ j,j<i->P0 l j=true)/\P0 l i=true:=
 ⟨fun h=>⟨fun j hj=>h j (by omega),h i (by omega)⟩,fun h j hj=>by rcases Nat.lt_or_ge j i with h1 | h1;exact h.1 j h1;rw[show j=i from by omega];exact h.2⟩
theorem Eb {n:Nat} {p:Nat->Bool}:(List.range n).all p=true↔∀ j,j<n->p j=true:=by simp[List.all_eq_true]
theorem Up {l:List Ty} {i:Nat} (hi:i<l.length) (h:P0 l i=false):Hi l=false:=by
 unfold Hi;rw[Bool.and_eq_false_iff];exact .inl (Bool.eq_false_iff.2 fun h2=>by have:=Eb.1 h2 i hi;rw[h] at this;cases this)
theorem Wl {l:List Ty} {i:Nat} (hi:i<l.length) (h:Cx (Bs l) l[i]=false):Hi l=false:=by
 unfold Hi;rw[Bool.and_eq_false_iff];exact .inr (Bool.eq_false_iff.2 fun h2=>by have:=List.all_eq_true.1 h2 l[i] (List.getElem_mem hi);rw[h] at this;cases this)
theorem W0 {l:List Ty} {i:Nat} (h:i<l.length) (x:Kinds):H4 x (l.take (i+1))=I1 (H4 x (l.take i)) l[i].k:=by
 rw[List.take_succ_eq_append_getElem h,M5];rfl
structure IsR (w wr:World) (l:List Ty) (i:Nat):Prop where
 le:i<=l.length
 ok:∀ j,j<i->P0 l j=true
 kb:KB wr w.heap.size (H4 ⟨false,false,false,false⟩ (l.take i))
 below:Below w.heap.size w wr
theorem IsR.lt {w wr:World} {l:List Ty} {i:Nat} (h:IsR w wr l i):w.heap.size<wr.heap.size:=(Array.getElem?_eq_some_iff.1 h.kb).1
theorem IsR.next {w wr wy wz:World} {l:List Ty} {i:Nat} (h:IsR w wr l i) (hi:i<l.length) (hok:P0 l i=true) (hy:Below wr.heap.size wr wy) (hk:KB wz w.heap.size (I1 (H4 ⟨false,false,false,false⟩ (l.take i)) l[i].k)) (hs:SetAt w.heap.size wy wz):IsR w wz l (i+1):=
 ⟨hi,Jc9.2 ⟨h.ok,hok⟩,by rw[W0 hi];exact hk,hs.below (h.below.trans (hy.mono h.below.size)) (Nat.le_refl _)⟩
theorem Jcx {K:Nat->Prop} {w:World} {l:List Ty} {A:Option Addr} {c:Nat} (hL:ListT K w l A c) :
  Calls Tryz.prog 137 #[.slice A l.length c] w fun e w'=>e=.returned (.bool (Hi l))/\Below w.heap.size w w':=by
 have HL:=Hd hL;have hll:=hL.short;have HST:Hid (IsR w (w.alloc (.cells #[.bool false,.bool false,.bool false,.bool false] 143)) l 0):=Hd ⟨Nat.zero_le _,fun j hj=>absurd hj (by omega),heap_alloc_new w _,(Below.refl _ _).alloc (Nat.le_refl _) _⟩;clear hL;go_enter Tryz.func137,Tryz.ntmps137;go_wp2_with fail
 go_loopw [8] (fun v wr=>∃ i:Nat,v=.int .i64 (i:Int)/\IsR w wr l i) (fun v _=>l.length - (intOf v).toNat)
 case atStart=>exact⟨0,rfl,HST.out⟩
 case round=>
  obtain⟨i,rfl,hr⟩:=hrel;have HR:=Hd hr;have hle:=hr.le;by_cases hlt:i<l.length
  ·have t1:decide ((i:Int)<(l.length:Int))=true:=by simp;omega
   have wr2:wrap64 ((i:Int)+1)=((i+1:Nat):Int):=Ao (by omega);have HM:=Hd (Ba hlt);obtain⟨b,o,hA,_,hat⟩:=HL.out.at (by omega);subst hA;have hti:l[i]?=some l[i]:=List.getElem?_eq_getElem hlt;have HAT:=Hd fun (j:Nat) (hj:j<l.length)=>(hat j hj).later hr.below;obtain⟨k,hk,hck⟩:∃ k,l[i].k=k/\wr.cell? ⟨b,o+i*6,none⟩=some (.int .i64 k):=by
    have h1:=HAT.out i hlt;generalize l[i]=t at h1;obtain⟨k,s,n,ps,fs,vs⟩:=t;obtain⟨_,_,_,_,_,_,⟨x0,_⟩,_⟩:=h1.six;exact⟨k,rfl,x0⟩
   have HCK:Hid (∀ wx,Below wr.heap.size wr wx->wx.cell? ⟨b,o+i*6,none⟩=some (.int .i64 k)):=Hd fun wx hx=>Aa hx hck;have HSEE:Hid (∀ wy,Below wr.heap.size wr wy->Calls Tryz.prog 138 #[.pointer (some ⟨w.heap.size,0,none⟩),.pointer (some ⟨b,o+i*6,none⟩)] wy fun e w'=>e=.returned (.tuple #[])/\KB w' w.heap.size (I1 (H4 ⟨false,false,false,false⟩ (l.take i)) k)/\SetAt w.heap.size wy w'):=Hd fun wy hy=>Uz (by unfold KB;rw[hy.block _ hr.lt];exact hr.kb) (Aa hy hck);have HNX:Hid (P0 l i=true->∀ wy wz,Below wr.heap.size wr wy->KB wz w.heap.size (I1 (H4 ⟨false,false,false,false⟩ (l.take i)) k)->SetAt w.heap.size wy wz->IsR w wz l (i+1)):=Hd fun hok wy wz hy hk2 hs=>hr.next hlt hok hy (by rw[hk];exact hk2) hs;by_cases hk15:k=15
   ·have HNO:Hid (Hi l=false):=Hd (Up hlt (by unfold P0;rw[hti];simp[hk,hk15]));have HB9:=Hd hr.below;clear hat hr hle hti hck HNX HSEE hk;subst hk15;go_wp2_with fail;refine wp_region_held_drew (S:=(fun w'=>w'.cell? ⟨b,o+i*6,none⟩=some (.int .i64 15))) (by kernel_rfl) (HCK.out _ (Below.refl _ _).drew) (fun hHeld=>?_);refine Plan.start [0,1,2,3,4,5,6] ?_
    iterate 7 (refine Plan.tk (so rfl) hHeld ?_;try simp only[Act.put,Ax,Ay,Az])
    refine Plan.done ?_;refine Plan.start [7,8,9,10,11,12,13,14,15,16,17,18,19] ?_
    iterate 13 (refine Plan.take (v:=undef) (so rfl) (by kernel_rfl) (by kernel_rfl) (by kernel_rfl) (fun _ _ _ h=>h) (Or.inr ⟨by rfl,rfl⟩) hHeld ?_;try simp only[Act.put,Ax,Ay,Az])
    refine Plan.done ?_;refine Plan.start [20] ?_;refine Plan.tk (so rfl) hHeld ?_;try simp only[Act.put,Ax,Ay,Az]
    refine Plan.done ?_;refine wpAnyH_done (by kernel_rfl) ?_ _;clear hHeld;clear HCK HR;go_wp2_with fail;go_ret
    exact⟨by rw[HNO.out];rfl,HB9.out.drew⟩
   ·have tk:(k == 15)=false:=by simpa using hk15
    cases i with
    | zero=>
     have HOK:Hid (P0 l 0=true):=Hd (by unfold P0;rw[hti];simp[hk,hk15]);simp only[Nat.zero_mul,Nat.add_zero] at HCK HSEE;clear hat hr hle hti hck hk hk15;go_wp2_with fail;refine wp_region_held_drew (S:=(fun w'=>w'.cell? ⟨b,o,none⟩=some (.int .i64 k))) (by kernel_rfl) (HCK.out _ (Below.refl _ _).drew) (fun hHeld=>?_);refine Plan.start [0,1,2,3,4,5,6,7,8,9] ?_
     iterate 10 (refine Plan.tk (so rfl) hHeld ?_;try simp only[Act.put,Ax,Ay,Az])
     refine Plan.done ?_;refine Plan.start [10,11,12,13,14,15,16,17,18] ?_
     iterate 9 (refine Plan.take (v:=undef) (so rfl) (by kernel_rfl) (by kernel_rfl) (by kernel_rfl) (fun _ _ _ h=>h) (Or.inr ⟨by rfl,rfl⟩) hHeld ?_;try simp only[Act.put,Ax,Ay,Az])
     refine Plan.done ?_;refine Plan.start [19,20] ?_
     iterate 2 (refine Plan.tk (so rfl) hHeld ?_;try simp only[Act.put,Ax,Ay,Az])
     refine Plan.done ?_;refine wpAnyH_done (by kernel_rfl) ?_ _;clear hHeld;go_wp2_with fail;refine (HSEE.out _ (Below.refl _ _).drew).mono ?_;rintro e w3 ⟨rfl,hkb3,hs3⟩;have HI3:=Hd (HNX.out HOK.out _ _ (Below.refl _ _).drew hkb3 hs3);clear hkb3 hs3 HSEE HNX;go_wp2_with fail;refine⟨⟨0+1,by first | rfl | rw[wr2],HI3.out⟩,?_⟩;first | exact HM.out | (rw[wr2];exact HM.out)
    | succ i=>
     have HORD:Hid (∀ wx,Below wr.heap.size wr wx->Calls Tryz.prog 104 #[.pointer (some ⟨b,o+i*6,none⟩),.pointer (some ⟨b,o+(i+1)*6,none⟩)] wx fun e w'=>e=.returned (.int .i64 (Bt l[i] l[i+1]))/\Gw wx w'):=Hd fun wx hx=>(J6 l[i] K K l[i+1]).ok wx _ _ _ _ ((HAT.out i (by omega)).later hx) ((HAT.out (i+1) hlt).later hx);have hoks:P0 l (i+1)=decide (Bt l[i] l[i+1]<0):=by
      unfold P0;rw[hti];show (!(l[i+1].k == 15) && (match l[i]? with | none=>true | some p=>decide (Bt p l[i+1]<0)))=_;rw[List.getElem?_eq_getElem (by omega:i<l.length)];simp[hk,hk15]
     have HNO:Hid (Bt l[i] l[i+1]<0\/Hi l=false):=Hd (by
      by_cases h0:Bt l[i] l[i+1]<0
      ·exact .inl h0
      ·exact .inr (Up hlt (by rw[hoks];simpa using h0)))
     have HOKS:=Hd hoks;have HB9:=Hd hr.below;generalize Bt l[i] l[i+1]=oo at HORD HNO HOKS;have wr1:wrap64 (((i+1:Nat):Int) - 1)=((i:Nat):Int):=(by rw[Cf (by omega) (by omega)];omega);have wr1':IntKind.i64.wrap (((i+1:Nat):Int) - 1)=((i:Nat):Int):=by
      have e:IntKind.i64.wrap (((i+1:Nat):Int) - 1)=wrap64 (((i+1:Nat):Int) - 1):=(by unfold wrap64;exact IntKind.wrap_i64 _);rw[e,wr1]
     have wr3:wrap64 (i:Int)=(i:Int):=Cf (by omega) (by omega);have wr3':IntKind.i64.wrap (i:Int)=(i:Int):=by
      have e:IntKind.i64.wrap (i:Int)=wrap64 (i:Int):=(by unfold wrap64;exact IntKind.wrap_i64 _);rw[e,wr3]
     have i0:(0:Int)<=(i:Int)+1:=(by omega);have i1:(i:Int)+1<(l.length:Int):=(by omega);have i2:(0:Int)<=(i:Int):=(by omega);have i3:(i:Int)<(l.length:Int):=(by omega);have i4:(0:Int)<(i:Int)+1:=(by omega);clear hat hr hle hti hck hk hk15 hoks;go_wp2_with fail;refine wp_region_held_drew (S:=(fun w'=>w'.cell? ⟨b,o+(i+1)*6,none⟩=some (.int .i64 k))) (by kernel_rfl) (HCK.out _ (Below.refl _ _).drew) (fun hHeld=>?_);refine Plan.start [0,1,2,3,4,5,6,7,8,9,10,11,12,13,14,15,16] ?_
     iterate 17 (refine Plan.tk (so rfl) hHeld ?_;try simp only[Act.put,Ax,Ay,Az])
     refine Plan.done ?_;refine wpAnyH_ready (rs:=[17]) (by kernel_rfl) (by simp) ?_;refine AllReadyH.cons (sd (some 28) rfl) (fun K hK=>?_) AllReadyH.nil;go_simp;refine (HORD.out _ (Below.refl _ _).drew).mono ?_;rintro e w2 ⟨rfl,hb2⟩;have HB2:=Hd ((Below.refl wr.heap.size wr).drew.trans hb2.below);clear hb2;go_wp2_with fail;refine hK.out _ _ (HCK.out _ HB2.out) (fun hHeld=>?_);clear hK K;try simp only[Act.put,Ax,Ay,Az]
     refine Plan.start [18,19,20] ?_
     iterate 3 (refine Plan.tk (so rfl) hHeld ?_;try simp only[Act.put,Ax,Ay,Az])
     refine Plan.done ?_;refine wpAnyH_done (by kernel_rfl) ?_ _;clear hHeld;by_cases h0:oo<0
     ·have h1:¬ (0<=oo):=(by omega);have HOK:Hid (P0 l (i+1)=true):=Hd (by rw[HOKS.out];simpa using h0);clear i0 i1 i2 i3 i4 wr1 wr1' wr3 wr3' HORD h0;go_wp2_with fail;refine (HSEE.out _ HB2.out).mono ?_;rintro e w3 ⟨rfl,hkb3,hs3⟩;have HI3:=Hd (HNX.out HOK.out _ _ HB2.out hkb3 hs3);clear hkb3 hs3 HSEE HNX;go_wp2_with fail;refine⟨⟨(i+1)+1,by first | rfl | rw[wr2],HI3.out⟩,?_⟩;first | exact HM.out | (rw[wr2];exact HM.out)
     ·have h1:0<=oo:=(by omega);have HN2:Hid (Hi l=false):=Hd (HNO.out.resolve_left h0);clear i0 i1 i2 i3 i4 wr1 wr1' wr3 wr3' HORD h0;go_wp2_with fail;go_ret
      exact⟨by rw[HN2.out];rfl,HB9.out.trans (HB2.out.mono HB9.out.size)⟩
  ·have t1:decide ((i:Int)<(l.length:Int))=false:=by simp;omega
   have hil:i=l.length:=by omega
   have HOK:Hid ((List.range l.length).all (P0 l)=true):=Hd (Eb.2 fun j hj=>hr.ok j (by omega));have HKB:Hid (KB wr w.heap.size (Bs l)):=Hd (by have h:=hr.kb;rw[List.take_of_length_le (by omega),M6] at h;exact h);have HB9:=Hd hr.below;clear hr hle hil HR;go_wp2_with fail
   go_loopw [39] (fun v wx=>∃ i:Nat,i<=l.length/\v=.int .i64 (i:Int)/\(∀ j (h:j<l.length),j<i->Cx (Bs l) l[j]=true)/\wx=wr) (fun v _=>l.length - (intOf v).toNat)
   case atStart=>exact⟨0,by omega,rfl,fun j _ hj=>absurd hj (by omega),rfl⟩
   case round=>
    obtain⟨i,hi,rfl,hkp,rfl⟩:=hrel;have HKP:=Hd hkp;clear hkp;by_cases hlt:i<l.length
    ·have t1:decide ((i:Int)<(l.length:Int))=true:=(by simp;omega);have wr2:wrap64 ((i:Int)+1)=((i+1:Nat):Int):=Ao (by omega);have HM:=Hd (Ba hlt);obtain⟨b,o,hA,_,hat⟩:=HL.out.at (by omega);subst hA;have KK:=Hd (Rg (t:=l[i]) HKB.out ((hat i hlt).later HB9.out));have HIN:=Hd hlt;generalize hq:Cx (Bs l) l[i]=qq at KK
     cases qq with
     | false=>
      have HNO:Hid (Hi l=false):=Hd (Wl hlt hq);clear hq hat hi;go_wp2_with fail;refine KK.out.mono ?_;rintro e w2 ⟨rfl,rfl⟩;go_wp2_with fail;go_ret
      exact⟨by rw[HNO.out];rfl,HB9.out⟩
     | true=>
      have HK2:Hid (∀ j (h:j<l.length),j<i+1->Cx (Bs l) l[j]=true):=Hd fun j h hj=>by
       rcases Nat.lt_or_ge j i with h1 | h1
       ·exact HKP.out j h h1
       ·have:j=i:=by omega
        subst this;exact hq
      clear hq hat hi;go_wp2_with fail;refine KK.out.mono ?_;rintro e w2 ⟨rfl,rfl⟩;go_wp2_with fail;refine⟨⟨i+1,HIN.out,by first | rfl | rw[wr2],HK2.out,by first | rfl | trivial⟩,?_⟩;first | exact HM.out | (rw[wr2];exact HM.out)
    ·have t1:decide ((i:Int)<(l.length:Int))=false:=(by simp;omega);have HYES:Hid (Hi l=true):=Hd (by
      unfold Hi;rw[HOK.out,Bool.true_and,List.all_eq_true];intro x hx;obtain⟨j,hj,rfl⟩:=List.getElem_of_mem hx;exact HKP.out j hj (by omega))
     clear hi;go_wp2_with fail;go_ret
     exact⟨by rw[HYES.out];rfl,HB9.out⟩
def Nl:Array Value:=#[.int .i64 0,.string ⟨#[]⟩,.int .i64 0,.slice none 0 0,.slice none 0 0,.slice none 0 0]
theorem S5 (n:Nat) (hn:n<=1099511627776) (w:World):(Instr.makeSlice 22 (.int .i64 (n:Int)) (.int .i64 (n:Int))).run Tryz.prog w=.ok (.slice (some ⟨w.heap.size,0,none⟩) n n) (w.alloc (.cells (madeCells Nl (n*6)) 26)):=by
 obtain⟨i0,hi0,hz0,hz1,hz2⟩:=D4 Hh;have hr:=run_make (P:=Tryz.prog) w 22 26 i0 _ Tryz.underlying22 hi0 hz0 .i64 .i64 n n (by omega) (Int.le_refl _) (by rw[hz2];omega) (by omega);simp only[Int.toNat_natCast,hz1] at hr;exact hr
theorem Bn {w:World} {p r:Addr} {u:Value} (h:∃ v,w.cell? p=some v):∃ v,(w.setCell r u).cell? p=some v:=by
 obtain⟨v,hv⟩:=h;by_cases e:r=p
 ·subst e;exact⟨u,World.cell?_setCell_same _ _ _ hv⟩
 ·exact⟨v,(World.cell?_setCell_other _ _ _ _ e).trans hv⟩
theorem Fp {w:World} {p:Addr} {u:Value} (h:∃ v,w.cell? p=some v):(w.setCell p u).cell? p=some u:=by
 obtain⟨v,hv⟩:=h;exact World.cell?_setCell_same _ _ _ hv
theorem Eg {g a b:Nat} (h:a≠b):(⟨g,a,none⟩:Addr)≠⟨g,b,none⟩:=fun e=>by
 injection e with _ e2 _
 exact h e2
def Ei (w:World) (g y:Nat) (v0 v1 v2 v3 v4 v5:Value):World:=(((((w.setCell ⟨g,y,none⟩ v0).setCell ⟨g,y+1,none⟩ v1).setCell ⟨g,y+2,none⟩ v2).setCell ⟨g,y+3,none⟩ v3).setCell ⟨g,y+4,none⟩ v4).setCell ⟨g,y+5,none⟩ v5
theorem M3 {w:World} {g y:Nat} {v0 v1 v2 v3 v4 v5:Value} {p:Addr} (h:p.block≠g\/p.off<y):(Ei w g y v0 v1 v2 v3 v4 v5).cell? p=w.cell? p:=by
 have hne:∀ i,(⟨g,y+i,none⟩:Addr)≠p:=fun i e=>by
  subst e;rcases h with h | h
  ·exact h rfl
  ·have h:y+i<y:=h;omega
 unfold Ei;rw[World.cell?_setCell_other _ _ _ _ (hne 5),World.cell?_setCell_other _ _ _ _ (hne 4),World.cell?_setCell_other _ _ _ _ (hne 3),World.cell?_setCell_other _ _ _ _ (hne 2),World.cell?_setCell_other _ _ _ _ (hne 1),World.cell?_setCell_other _ _ _ _ (show (⟨g,y,none⟩:Addr)≠p from hne 0)]
theorem Ps {w:World} {g y:Nat} {v0 v1 v2 v3 v4 v5:Value} (h:∀ x,x<6->∃ v,w.cell? ⟨g,y+x,none⟩=some v) :
  ∀ x u,([v0,v1,v2,v3,v4,v5]:List Value)[x]?=some u->(Ei w g y v0 v1 v2 v3 v4 v5).cell? ⟨g,y+x,none⟩=some u:=by
 intro x u hu;unfold Ei;rcases x with _ | _ | _ | _ | _ | _ | x
 ·obtain rfl:v0=u:=by simpa using hu
  rw[World.cell?_setCell_other _ _ _ _ (Eg (by omega)),World.cell?_setCell_other _ _ _ _ (Eg (by omega)),World.cell?_setCell_other _ _ _ _ (Eg (by omega)),World.cell?_setCell_other _ _ _ _ (Eg (by omega)),World.cell?_setCell_other _ _ _ _ (Eg (by omega))];exact Fp (h 0 (by omega))
 ·obtain rfl:v1=u:=by simpa using hu
  rw[World.cell?_setCell_other _ _ _ _ (Eg (by omega)),World.cell?_setCell_other _ _ _ _ (Eg (by omega)),World.cell?_setCell_other _ _ _ _ (Eg (by omega)),World.cell?_setCell_other _ _ _ _ (Eg (by omega))];exact Fp (Bn (h 1 (by omega)))
 ·obtain rfl:v2=u:=by simpa using hu
  rw[World.cell?_setCell_other _ _ _ _ (Eg (by omega)),World.cell?_setCell_other _ _ _ _ (Eg (by omega)),World.cell?_setCell_other _ _ _ _ (Eg (by omega))];exact Fp (Bn (Bn (h 2 (by omega))))
 ·obtain rfl:v3=u:=by simpa using hu
  rw[World.cell?_setCell_other _ _ _ _ (Eg (by omega)),World.cell?_setCell_other _ _ _ _ (Eg (by omega))];exact Fp (Bn (Bn (Bn (h 3 (by omega)))))
 ·obtain rfl:v4=u:=by simpa using hu
  rw[World.cell?_setCell_other _ _ _ _ (Eg (by omega))];exact Fp (Bn (Bn (Bn (Bn (h 4 (by omega))))))
 ·obtain rfl:v5=u:=by simpa using hu
  exact Fp (Bn (Bn (Bn (Bn (Bn (h 5 (by omega)))))))
 ·simp at hu
theorem Ka (w:World) (g y:Nat) (v0 v1 v2 v3 v4 v5:Value):(Ei w g y v0 v1 v2 v3 v4 v5).heap.size=w.heap.size:=by simp[Ei]
structure FillT (K:Nat->Prop) (w:World) (g q:Nat) (S:List Ty):Prop where
 lt:g<w.heap.size
 cell:∀ y,y<q*6->∃ v,w.cell? ⟨g,y,none⟩=some v
 free:∀ y,w.frozen? ⟨g,y,none⟩=false
 reps:∀ i (h:i<S.length),∃ cs,RepT (fun b=>K b\/g<b) w S[i] cs/\∀ j u,cs[j]?=some u->w.cell? ⟨g,i*6+j,none⟩=some u
theorem FillT.start (K:Nat->Prop) (w:World) (n:Nat):FillT K (w.alloc (.cells (madeCells Nl (n*6)) 26)) w.heap.size n []:=by
 refine⟨by simp,fun y hy=>?_,fun y=>by simp,fun i h=>absurd h (by simp)⟩;have hs:y<(madeCells Nl (n*6)).size:=by rw[size_madeCells];exact hy
 exact⟨(madeCells Nl (n*6))[y],by rw[cell_of_row _ _ _ _ _ _ (heap_alloc_new w _)];exact Array.getElem?_eq_getElem hs⟩
theorem FillT.below {K:Nat->Prop} {w w':World} {g q:Nat} {S:List Ty} (h:FillT K w g q S) (hb:Below w.heap.size w w'):FillT K w' g q S:=
 ⟨by have:=h.lt;have:=hb.size;omega,fun y hy=>by obtain⟨v,hv⟩:=h.cell y hy;exact⟨v,Aa hb hv⟩,fun y=>(hb.frozen (p:=⟨g,y,none⟩) h.lt).trans (h.free y),
  fun i hi=>by obtain⟨cs,h1,h2⟩:=h.reps i hi;exact⟨cs,h1.later hb,fun j u hj=>Aa hb (h2 j u hj)⟩⟩
theorem FillT.put {K:Nat->Prop} {w:World} {g q:Nat} {S:List Ty} {t:Ty} {v0 v1 v2 v3 v4 v5:Value} (h:FillT K w g q S) (hlo:∀ b,K b->b<g) (hj:S.length<q) (ht:RepT (fun b=>K b\/g<b) w t [v0,v1,v2,v3,v4,v5]) :
  FillT K (Ei w g (S.length*6) v0 v1 v2 v3 v4 v5) g q (S++[t]):=by
 have hkeep:∀ {t:Ty} {cs:List Value},RepT (fun b=>K b\/g<b) w t cs->RepT (fun b=>K b\/g<b) (Ei w g (S.length*6) v0 v1 v2 v3 v4 v5) t cs:=fun {t cs} hr=>
  RepT.keep (fun _ h=>h) (fun b o v hk hc=>by
   rw[M3 (.inl ?_)]
   ·exact hc
   ·show b≠g;rcases hk with hk | hk
    ·have:=hlo b hk;omega
    ·omega) t cs hr
 refine⟨by rw[Ka];exact h.lt,fun y hy=>?_,fun y=>?_,fun i hi=>?_⟩
 ·exact Bn (Bn (Bn (Bn (Bn (Bn (h.cell y hy))))))
 ·simp only[Ei,World.frozen?_setCell];exact h.free y
 ·rw[List.length_append,List.length_singleton] at hi;by_cases hlt:i<S.length
  ·obtain⟨cs,h1,h2⟩:=h.reps i hlt;have h6:=h1.six;refine⟨cs,by rw[List.getElem_append_left hlt];exact hkeep h1,fun j u hj'=>?_⟩;have hj6:=(List.getElem?_eq_some_iff.1 hj').1;rw[M3 (.inr (by show i*6+j<S.length*6;omega))];exact h2 j u hj'
  ·obtain rfl:i=S.length:=by omega
   refine⟨_,by rw[List.getElem_append_right (by omega)];simpa using hkeep ht,fun j u hj'=>Ps (fun x hx=>h.cell _ (by omega)) j u hj'⟩
theorem FillT.list {K:Nat->Prop} {w:World} {g:Nat} {S:List Ty} (h:FillT K w g S.length S) (hl:S.length<=1000000000000000):ListT (fun b=>K b\/g<=b) w S (some ⟨g,0,none⟩) S.length:=
 ⟨g,0,⟨Nat.le_refl _,hl,(fun h=>by cases h),fun _=>⟨rfl,.inr (Nat.le_refl _)⟩⟩,fun i hi=>by
  obtain⟨cs,h1,h2⟩:=h.reps i hi;exact⟨cs,fun j u hj=>by rw[Nat.zero_add];exact h2 j u hj,h1.weak fun b hb=>hb.imp id fun hb=>Nat.le_of_lt hb⟩⟩
end Go.Proofs.YtlpfpehegddcfaaGreatDoor
