import Derived.Test.YtlpfpehegddcfaaGreatDoorMx7
namespace Go.Proofs.YtlpfpehegddcfaaGreatDoor
set_option maxRecDepth 100000
set_option maxHeartbeats 64000000
open Go.RowKit
structure Ad (O:Nat->Prop) (w w':World):Prop where
 os:w'.os=w.os
 tape:w'.tape=w.tape
 output:w'.output=w.output
 size:w.heap.size<=w'.heap.size
 block:∀k,k<w.heap.size->¬ O k->w'.heap[k]?=w.heap[k]?
theorem Ad.refl (O:Nat->Prop) (w:World):Ad O w w:=⟨rfl,rfl,rfl,Nat.le_refl _,fun _ _ _=>rfl⟩
theorem Ad.trans {O O':Nat->Prop}{a b c:World}(h:Ad O a b) (h':Ad O' b c) (ho:∀x,O' x->O x\/a.heap.size<=x):Ad O a c:=
 ⟨h'.os.trans h.os,h'.tape.trans h.tape,h'.output.trans h.output,Nat.le_trans h.size h'.size,fun k hk hn=>(h'.block k (Nat.lt_of_lt_of_le hk h.size) fun e=>(ho k e).elim hn (by omega)).trans (h.block k hk hn)⟩
theorem Ad.of_below {O:Nat->Prop}{a b:World}(h:Below a.heap.size a b):Ad O a b:=⟨h.os,h.tape,h.output,h.size,fun k hk _=>h.block k hk⟩
theorem Ad.below {O:Nat->Prop}{a b:World}{B:Nat}(h:Ad O a b) (hB:B<=a.heap.size) (ho:∀x,O x->B<=x):Below B a b:=⟨h.os,h.tape,h.output,h.size,fun k hk=>h.block k (by omega) fun e=>by have:=ho k e;omega⟩
theorem Ad.grown {O:Nat->Prop}{a w w':World}{row:Option Nat}(h:Ad O a w) (hg:w.grownBy w' row) (hr:∀k,row=some k->O k\/a.heap.size<=k):Ad O a w':=
 ⟨hg.os.trans h.os,hg.tape.trans h.tape,hg.output.trans h.output,Nat.le_trans h.size hg.size,fun k hk hn=>(hg.block k (Nat.lt_of_lt_of_le hk h.size) fun e=>(hr k e.symm).elim hn (by omega)).trans (h.block k hk hn)⟩
theorem Ad.cell {O:Nat->Prop}{a b:World}(h:Ad O a b) {p:Addr}{v:Value}(hp:¬ O p.block) (hc:a.cell? p=some v):b.cell? p=some v:=
 (World.cell?_of_block (h.block p.block (World.block_lt_of_cell? _ _ hc) hp)).trans hc
theorem Aw.but {O K K':Nat->Prop}{a b:World}{t:Ty}{cs:List Value}(h:Aw K a t cs) (hb:Ad O a b) (hk:∀x,K x->¬ O x/\K' x):Aw K' b t cs:=
 Aw.keep (fun x hx=>(hk x hx).2) (fun x _ _ hx hc=>hb.cell (hk x hx).1 hc) t cs h
theorem U9 (h:El):∀l:List Ty,Id h l=⟨h.a || D6 3 l,h.u || D6 2 l,h.n || D6 7 l,h.s || D6 8 l⟩
 | []=>by simp[Id,D6]
 | t :: l=>by
  show Id (Jf h t.k) l=_;rw[U9 (Jf h t.k) l];simp[Jf,D6,Bool.or_assoc]
theorem M6 (l:List Ty):Id ⟨false,false,false,false⟩ l=D1 l:=by
 rw[U9];simp[D1]
def Jc8:Prop:=∀(K:Nat->Prop) (w0 w:World) (g c:Nat) (l:List Ty),Fc K w0 w g c l->Below w0.heap.size w0 w->w0.heap.size<=g->l.length<=1099511627776 ->
 Calls Tryz.prog 100 #[.slice (some ⟨g,0,none⟩) l.length c,.func (.func 101) #[] #[]] w fun e w'=>e=.returned (.tuple #[])/\Below w0.heap.size w0 w'/\∃s,Wk s/\(∀x,x∈s↔x∈l)/\s.length=l.length/\Fc K w0 w' g c s
def Jc7:Prop:=∀(w:World),Calls Tryz.prog 100 #[.slice none 0 0,.func (.func 101) #[] #[]] w fun e w'=>e=.returned (.tuple #[])/\Below w.heap.size w w'
def Jc6:Prop:=∀(K:Nat->Prop) (w0 w:World) (g c:Nat) (s:List Ty),Fc K w0 w g c s->Below w0.heap.size w0 w->w0.heap.size<=g->s.length<=1099511627776 ->
 Calls Tryz.prog 102 #[.slice (some ⟨g,0,none⟩) s.length c,.func (.func 103) #[] #[]] w fun e w'=>e=.returned (.slice (some ⟨g,0,none⟩) (Cf s).length c)/\Below w0.heap.size w0 w'/\Fc K w0 w' g c (Cf s)
def Jc5:Prop:=∀(w:World),Calls Tryz.prog 102 #[.slice none 0 0,.func (.func 103) #[] #[]] w fun e w'=>e=.returned (.slice none 0 0)/\Below w.heap.size w w'
theorem Ya (A:Option Addr) (n c:Nat) (w:World) (h:n<=c):Calls Tryz.prog 105 #[.slice A n c] w fun e w'=>e=.returned (.slice A n n)/\w'=w:=by
 go_enter Tryz.func105,Tryz.ntmps105;go_wp2_with fail;go_ret
 exact⟨rfl,rfl⟩
theorem K0 {l:List Ty}{p:Ty->Bool}{i:Nat}(h:i<l.length):(l.take (i+1)).filter p=(l.take i).filter p++(if p l[i] then [l[i]] else []):=by
 rw[List.take_succ_eq_append_getElem h,List.filter_append]
 congr 1
 by_cases hp:p l[i] <;> simp[hp]
def Gz (K:Nat->Prop) (w:World) (l:List Ty):Ending->World->Prop:=fun e w'=>∃cs,e=.returned (.agg cs.toArray)/\Aw (fun b=>K b\/w.heap.size<=b) w' (E5 l) cs/\Below w.heap.size w w'
structure H6 (K:Nat->Prop) (w1 wr:World) (gk g c:Nat) (h:El) (ts:List Ty) (i:Nat) (F:List Ty):Prop where
 le:i<=ts.length
 f:F=(ts.take i).filter (Fa h)
 kb:KB wr gk h
 below:Below w1.heap.size w1 wr
 row:Fc K w1 wr g c (F++ts.drop F.length)
theorem H6.fle {K:Nat->Prop}{w1 wr:World}{gk g c:Nat}{h:El}{ts:List Ty}{i:Nat}{F:List Ty}(r:H6 K w1 wr gk g c h ts i F):F.length<=i:=by
 rw[r.f];exact Nat.le_trans (List.length_filter_le ..) (by simp;omega)
theorem H6.at {K:Nat->Prop}{w1 wr:World}{gk g c:Nat}{h:El}{ts:List Ty}{i:Nat}{F:List Ty}(r:H6 K w1 wr gk g c h ts i F) (hi:i<ts.length):∃cs,Aw K w1 ts[i] cs/\∀(j:Nat) (u:Value),cs[j]?=some u->wr.cell? ⟨g,i*6+j,none⟩=some u:=by
 refine r.row.reps i _ ?_;have:=r.fle;rw[List.getElem?_append_right this,List.getElem?_drop,show F.length+(i - F.length)=i from by omega];exact List.getElem?_eq_getElem hi
theorem Cy.putL {P:Program}{α:Type}{M:MK P α}{W:World}{b n:Nat}{F:Z8->Option α}(h:Cy M W b n F) (hn:n<maxLen) (s:Z8) (hs:s.size<=maxLen) (a:α) :
  ∃w',(Instr.mapUpdate M.T (.map (some b)) (.string s) (M.val a)).run P W=.ok () w'/\Cy M w' b (n+1) (Hx F s a)/\W.grownBy w' (some b):=by
 obtain⟨L,h,hL,hF⟩:=h;obtain⟨w',hA,ho,hg⟩:=World.ownsMap.update h (Go.Maps.string_keyed M.hS) M.hT (Nat.lt_of_le_of_lt hL hn) (M.key s hs) (M.hR a);rw[M4 M L (s,a)]at ho;have hB:=Pv ho;rw[Hg]at hB;refine⟨w',hA,⟨_,hB,?_,fun x=>?_⟩,hg⟩
 ·rw[Js];have:=Oo L s;simp only;omega
 ·rw[Ir (s,a) x _ (by rw[Gd];simp)];unfold Hx;simp only;by_cases e:s=x
  ·rw[if_pos e,if_pos e]
  ·rw[if_neg e,if_neg e,Gd,if_neg e,hF]
def Hf:MK Tryz.prog Unit where
 T:=186
 S:=9
 E:=193
 val:=fun _=>.agg #[]
 dat:=fun _=>.agg []
 zero:=()
 R:=fun v=>match v with
  | .agg ⟨[]⟩=>some (.agg [],[])
  | _=>none
 hR:=fun _=>rfl
 inv:=by
  intro v a ps h
  split at h
  ·rfl
  ·cases h
 hS:=Tryz.underlying9
 hT:=Tryz.underlying186
 hz:=Tryz.zeroValue193
def M7 (x y:Bool):Int:=if x then -1 else if y then 1 else 0
theorem Cv (x y:Bool) (w:World):Calls Tryz.prog 44 #[.bool x,.bool y] w fun e w'=>e=.returned (.int .i64 (M7 x y))/\w'=w:=by
 cases x <;> cases y
 all_goals
  go_enter Tryz.func44,Tryz.ntmps44;go_wp2_with fail;go_ret
  exact⟨rfl,rfl⟩
theorem Gj (x y:Int):(x<y/\¬ y<x/\Dp x y = -1)\/(¬ x<y/\y<x/\Dp x y=1)\/(¬ x<y/\¬ y<x/\Dp x y=0):=by
 unfold Dp;by_cases h:x<y
 ·exact .inl ⟨h,by omega,by rw[if_pos h]⟩
 ·by_cases h2:y<x
  ·exact .inr (.inl ⟨h,h2,by rw[if_neg h,if_pos h2]⟩)
  ·exact .inr (.inr ⟨h,h2,by rw[if_neg h,if_neg h2]⟩)
theorem Hm (x y:Z8):(Op.bytesLess x.toList y.toList=true/\(x.toList == y.toList)=false/\Dv x y = -1)\/(Op.bytesLess x.toList y.toList=false/\(x.toList == y.toList)=false/\Dv x y=1)\/(Op.bytesLess x.toList y.toList=false/\(x.toList == y.toList)=true/\Dv x y=0):=by
 have h1:=Mq x y;have h2:=Uw x y;unfold Dv;by_cases h:x.data.toList<y.data.toList
 ·refine .inl ⟨by rw[h1];simpa using h,?_,by rw[if_pos h]⟩;rw[ByteArray.toList_eq,ByteArray.toList_eq];exact beq_eq_false_iff_ne.2 fun e=>List.lt_irrefl _ (e ▸ h)
 ·have e1:Op.bytesLess x.toList y.toList=false:=by rw[h1];simpa using h
  rw[e1,Bool.false_or]at h2;by_cases h3:y.data.toList<x.data.toList
  ·refine .inr (.inl ⟨e1,?_,by rw[if_neg h,if_pos h3]⟩);have:(!(x.toList == y.toList))=true:=by rw[h2];simpa using h3
   simpa using this
  ·refine .inr (.inr ⟨e1,?_,by rw[if_neg h,if_neg h3]⟩);have:(!(x.toList == y.toList))=false:=by rw[h2];simpa using h3
   simpa using this
def O9 (t:Ty):Prop:=∀(K K':Nat->Prop) (t':Ty) (w:World) (cs cs':List Value),Aw K w t cs->Aw K' w t' cs'->Calls Tryz.prog 20 #[.agg cs.toArray,.agg cs'.toArray] w fun e w'=>e=.returned (.int .i64 (B5 t t'))/\Gw w w'
theorem De.six2 {K:Nat->Prop}{w:World}{t:Ty}{b o:Nat}(h:De K w t b o):∃x0 x1 x2 x3 x4 x5 x6 x7 x8 x9 xa xb,(w.cell? ⟨b,o,none⟩=some (.int .i64 x0)/\w.cell? ⟨b,o+1,none⟩=some (.string x1)/\w.cell? ⟨b,o+2,none⟩=some (.int .i64 x2)/\w.cell? ⟨b,o+3,none⟩=some (.slice x3 x4 x5)/\w.cell? ⟨b,o+4,none⟩=some (.slice x6 x7 x8)/\w.cell? ⟨b,o+5,none⟩=some (.slice x9 xa xb))/\Aw K w t [.int .i64 x0,.string x1,.int .i64 x2,.slice x3 x4 x5,.slice x6 x7 x8,.slice x9 xa xb]:=by
 obtain⟨k,s,n,A,lp,c,A',lf,c',A'',lv,c'',hr,e0,e1,e2,e3,e4,e5⟩:=h.vals;exact⟨k,s,n,A,lp,c,A',lf,c',A'',lv,c'',⟨e0,e1,e2,e3,e4,e5⟩,hr⟩
theorem Ry (l l':List (Ty)) (h:∀p∈l,O9 p) {K K':Nat->Prop}{w:World}{A A':Option Addr}{c c':Nat}(h1:Bk K w l A c) (h2:Bk K' w l' A' c') :
  Calls Tryz.prog 45 #[.slice A l.length c,.slice A' l'.length c'] w fun e w'=>e=.returned (.int .i64 (Ca (Fj flat l) (Fj flat l')))/\Gw w w':=by
 have H1:=Hd h1;have H2:=Hd h2;have HI:=Hd h;have hY:l.length<=1000000000000000:=by obtain⟨_,_,hr,_⟩:=h1;exact hr.big
 have hW:l'.length<=1000000000000000:=by obtain⟨_,_,hr,_⟩:=h2;exact hr.big
 clear h h1 h2;by_cases hE:l.length=l'.length
 ·rw[He flat hE];generalize hH:C0 flat l l' 0=res;have hM:=Hd hH;have hL:=Hd hE;rw[<-hE];have hV:¬ l.length<l.length:=Nat.lt_irrefl _;clear hH hE hW;go_enter Tryz.func45,Tryz.ntmps45;go_wp2_with fail;refine (Cv _ _ _).mono ?_;rintro e w1 ⟨rfl,rfl⟩;simp only[M7];go_wp2_with fail
  go_loopw [5,6] (fun vc vi wr=>∃(cc:Int) (i:Nat),i<=l.length/\vc=.int .i64 cc/\vi=.int .i64 i/\Fw cc (C0 flat l l' i)=res/\Gw w1 wr) (fun _ vi _=>l.length - (intOf vi).toNat)
  case atStart=>exact⟨0,0,by omega,by first|rfl|simp,rfl,by rw[Bn];exact hM.o,Gw.refl _⟩
  case round=>
   obtain⟨cc,i,hi,rfl,rfl,ho,hb⟩:=hrel;have HO:=Hd ho;have HB:=Hd hb;clear ho;by_cases hJ:cc=0
   ·subst hJ;by_cases hD:i<l.length
    ·have t1:decide ((i:Int)<(l.length:Int))=true:=(by simp;omega);have hR:wrap64 ((i:Int)+1)=((i+1:Nat):Int):=Ba (by omega);have HM:=Hd (Bg hD);have hC:i<l'.length:=(by rw[<-hL.o];exact hD);have hF:=Gh flat J1 hL.o hD hC;have hI:Fw (Ca (flat l[i]) (flat l'[i])) (C0 flat l l' (i+1))=res:=(by rw[<-hF,<-Bn (C0 flat l l' i)];exact HO.o);obtain⟨b,o,hA,_,hO⟩:=H1.o.at (by omega);obtain⟨b',o',hA',_,hat'⟩:=H2.o.at (by omega);subst hA hA';have i0:(0:Int)<=(i:Int):=(by omega);have i1:(i:Int)<(l.length:Int):=(by omega);clear hF;have hU:Z9 (i+1<=l.length):=Hd hD;obtain⟨p0,p1,p2,p3,p4,p5,p6,p7,p8,p9,pa,pb,hp,hP⟩:=((hO i hD).later hb.below).six2;obtain⟨q0,q1,q2,q3,q4,q5,q6,q7,q8,q9,qa,qb,hq,hQ⟩:=((hat' i hC).later hb.below).six2;have KO:Z9 (∀wx,Below wr.heap.size wr wx->Calls Tryz.prog 20 #[.agg #[.int .i64 p0,.string p1,.int .i64 p2,.slice p3 p4 p5,.slice p6 p7 p8,.slice p9 pa pb],.agg #[.int .i64 q0,.string q1,.int .i64 q2,.slice q3 q4 q5,.slice q6 q7 q8,.slice q9 qa qb]] wx fun e w'=>e=.returned (.int .i64 (B5 (l[i]'hD) (l'[i]'hC)))/\Gw wx w'):=Hd fun wx hx=>HI.o _ (List.getElem_mem hD) K K' (l'[i]'hC) wx _ _ (hP.later hx) (hQ.later hx);have HC:Z9 (∀wx,Below wr.heap.size wr wx->(wx.cell? ⟨b,o+i*6,none⟩=some (.int .i64 p0)/\wx.cell? ⟨b,o+i*6+1,none⟩=some (.string p1)/\wx.cell? ⟨b,o+i*6+2,none⟩=some (.int .i64 p2)/\wx.cell? ⟨b,o+i*6+3,none⟩=some (.slice p3 p4 p5)/\wx.cell? ⟨b,o+i*6+4,none⟩=some (.slice p6 p7 p8)/\wx.cell? ⟨b,o+i*6+5,none⟩=some (.slice p9 pa pb))/\wx.cell? ⟨b',o'+i*6,none⟩=some (.int .i64 q0)/\wx.cell? ⟨b',o'+i*6+1,none⟩=some (.string q1)/\wx.cell? ⟨b',o'+i*6+2,none⟩=some (.int .i64 q2)/\wx.cell? ⟨b',o'+i*6+3,none⟩=some (.slice q3 q4 q5)/\wx.cell? ⟨b',o'+i*6+4,none⟩=some (.slice q6 q7 q8)/\wx.cell? ⟨b',o'+i*6+5,none⟩=some (.slice q9 qa qb)):=Hd fun wx hx=>⟨⟨Aa hx hp.1,Aa hx hp.2.1,Aa hx hp.2.2.1,Aa hx hp.2.2.2.1,Aa hx hp.2.2.2.2.1,Aa hx hp.2.2.2.2.2⟩,⟨Aa hx hq.1,Aa hx hq.2.1,Aa hx hq.2.2.1,Aa hx hq.2.2.2.1,Aa hx hq.2.2.2.2.1,Aa hx hq.2.2.2.2.2⟩⟩;have hG:Fw (B5 (l[i]'hD) (l'[i]'hC)) (C0 flat l l' (i+1))=res:=hI;have HV:=Hd hG;generalize B5 (l[i]'hD) (l'[i]'hC)=oo at KO HV;clear hO hat' hp hq hP hQ hI hG hi hb;go_wp2_with fail;refine wp_region_held_drew (S:=(fun w'=>(w'.cell? ⟨b,o+i*6,none⟩=some (.int .i64 p0)/\w'.cell? ⟨b,o+i*6+1,none⟩=some (.string p1)/\w'.cell? ⟨b,o+i*6+2,none⟩=some (.int .i64 p2)/\w'.cell? ⟨b,o+i*6+3,none⟩=some (.slice p3 p4 p5)/\w'.cell? ⟨b,o+i*6+4,none⟩=some (.slice p6 p7 p8)/\w'.cell? ⟨b,o+i*6+5,none⟩=some (.slice p9 pa pb))/\w'.cell? ⟨b',o'+i*6,none⟩=some (.int .i64 q0)/\w'.cell? ⟨b',o'+i*6+1,none⟩=some (.string q1)/\w'.cell? ⟨b',o'+i*6+2,none⟩=some (.int .i64 q2)/\w'.cell? ⟨b',o'+i*6+3,none⟩=some (.slice q3 q4 q5)/\w'.cell? ⟨b',o'+i*6+4,none⟩=some (.slice q6 q7 q8)/\w'.cell? ⟨b',o'+i*6+5,none⟩=some (.slice q9 qa qb))) (by kernel_rfl) (HC.o _ (Below.refl _ _).drew) (fun hB=>?_);refine Ab.s [0,1,2,3,4,5,6,7] ?_
     iterate 8 (refine Ab.k (so rfl) hB ?_;try simp only[Act.put,Bd,Be,Bf])
     refine Ab.d ?_;refine wpAnyH_ready (rs:=[8]) (by kernel_rfl) (by simp) ?_;refine AllReadyH.cons (sd (some 36) rfl) (fun K hK=>?_) AllReadyH.nil;go_simp;refine (KO.o _ (Below.refl _ _).drew).mono ?_;rintro e w2 ⟨rfl,hN⟩;have hS:=Hd ((Below.refl wr.heap.size wr).drew.trans hN.below);have hT:=Hd ((HB.o.drew).trans hN);clear hN;go_wp2_with fail;refine hK.out _ _ (HC.o _ hS.o) (fun hB=>?_);clear hK K;try simp only[Act.put,Bd,Be,Bf]
     refine Ab.s [9] ?_;refine Ab.k (so rfl) hB ?_;try simp only[Act.put,Bd,Be,Bf]
     refine Ab.d ?_;refine wpAnyH_done (by kernel_rfl) ?_ _;clear hB;clear i0 i1 t1;go_wp2_with fail;refine⟨⟨oo,i+1,hU.o,by first|rfl|trivial,by first|rfl|rw[hR],HV.o,hT.o⟩,?_⟩;first|exact HM.o|(rw[hR];exact HM.o)
    ·have t1:decide ((i:Int)<(l.length:Int))=false:=(by simp;omega);have HR:Z9 (res=0):=Hd (by
      have h:=HO.o;rw[show i=l.length from by omega,Hc flat hL.o,Bn]at h;exact h.symm)
     clear hi hb;go_wp2_with fail;go_ret
     exact⟨by rw[HR.o];rfl,HB.o⟩
   ·have hX:(cc == 0)=false:=(by simpa using hJ);have HR:Z9 (res=cc):=Hd (by rw[<-HO.o,Dr hJ]);clear hi hb hJ;go_wp2_with fail;go_ret
    exact⟨by rw[HR.o];rfl,HB.o⟩
 ·rw[Iy flat hE];rcases Gj (l.length:Int) (l'.length:Int) with ⟨ha,hb,he⟩|⟨ha,hb,he⟩|⟨ha,hb,he⟩
  ·have HE:=Hd he;have n1:l.length<l'.length:=by omega
   have n2:¬ l'.length<l.length:=by omega
   clear he hE ha hb;go_enter Tryz.func45,Tryz.ntmps45;go_wp2_with fail;refine (Cv _ _ _).mono ?_;rintro e w1 ⟨rfl,rfl⟩;simp only[M7];go_wp2_with fail
   go_loopw [5,6] (fun vc _ wr=>vc=.int .i64 (-1)/\wr=w1) (fun _ _ _=>0)
   case atStart=>exact⟨by first|rfl|simp,rfl⟩
   case round=>
    obtain⟨rfl,rfl⟩:=hrel;go_wp2_with fail;go_ret
    exact⟨by rw[HE.o];rfl,Gw.refl _⟩
  ·have HE:=Hd he;have n1:¬ l.length<l'.length:=by omega
   have n2:l'.length<l.length:=by omega
   clear he hE ha hb;go_enter Tryz.func45,Tryz.ntmps45;go_wp2_with fail;refine (Cv _ _ _).mono ?_;rintro e w1 ⟨rfl,rfl⟩;simp only[M7];go_wp2_with fail
   go_loopw [5,6] (fun vc _ wr=>vc=.int .i64 (1)/\wr=w1) (fun _ _ _=>0)
   case atStart=>exact⟨by first|rfl|simp,rfl⟩
   case round=>
    obtain⟨rfl,rfl⟩:=hrel;go_wp2_with fail;go_ret
    exact⟨by rw[HE.o];rfl,Gw.refl _⟩
  ·exact absurd hE (by omega)
theorem Nj {P:Program}{w:World}{o:Oper}{a:Act}{K:Act->World->Prop}{Q:Exit->Act->World->Prop}(s x:Operand) (t:TypeId)
  (ho:o.op=.call { callee:=.builtin .append,args:=#[s,x],argTypes:=#[t,t] })
  (e:TypeId) (i:TypeInfo) (size:Nat) (ht:P.underlying t=some (.slice e)) (hi:P.info? e=some i) (hD:i.size=size)
  (b off n cap:Nat) (hs:a.eval s=.slice (some ⟨b,off,none⟩) n cap)
  (ad:Addr) (m c:Nat) (news:List Value) (hx:a.eval x=.slice (some ad) m c) (hl:news.length=m*size) (hB:∀j u,news[j]?=some u->w.cell? (ad.add j)=some u) (h1:∀u∈news,u.oneCell'=true)
  (hC:n+m<=cap) (oo:Nat) (hF:oo=off+n*size) (hA:∀j,j<news.length->(w.cell? ⟨b,oo+j,none⟩).isSome=true/\w.frozen? ⟨b,oo+j,none⟩=false)
  (h:K (a.put o.dst (.slice (some ⟨b,off,none⟩) (n+m) cap)) (w.setCells b oo news)) :
  Oper.wp P o a w K Q:=by
 subst hD;subst hF;have hE:=run_append_room_cells (P:=P) w t o.type e i ht hi b off n cap ad m c news hl hB h1 hC (fun j hj=>(hA j hj).1) (fun j hj=>(hA j hj).2);unfold Oper.wp execOp;simp only[ho,resolve,invoke,builtin,Sem.run_bind,Sem.run_pure,Result.andThen_ok,List.map_toArray,List.map_cons,List.map_nil,hs,hx,hE];exact h
theorem Cd {W:World}{b:Nat}{T:TypeId}{x0 x1 x2 x3 x4 x5:Value}(h:W.heap[b]?=some (.cells #[x0,x1,x2,x3,x4,x5] T (0,0))) (y0 y1 y2 y3 y4 y5:Value) :
  ((((((W.setCell ⟨b,0,none⟩ y0).setCell ⟨b,1,none⟩ y1).setCell ⟨b,2,none⟩ y2).setCell ⟨b,3,none⟩ y3).setCell ⟨b,4,none⟩ y4).setCell ⟨b,5,none⟩ y5).heap[b]?=some (.cells #[y0,y1,y2,y3,y4,y5] T (0,0)):=by
 have h0:=Go.heap_setCell_same W b 0 _ _ y0 h;have h1:=Go.heap_setCell_same _ b 1 _ _ y1 h0;have h2:=Go.heap_setCell_same _ b 2 _ _ y2 h1;have h3:=Go.heap_setCell_same _ b 3 _ _ y3 h2;have h4:=Go.heap_setCell_same _ b 4 _ _ y4 h3;exact Go.heap_setCell_same _ b 5 _ _ y5 h4
theorem Hv {g b:Nat}(hb:b≠g):∀(vs:List Value) (o:Nat) (w:World),(w.setCells g o vs).heap[b]?=w.heap[b]?
 | [],_,_=>rfl
 | v :: vs,o,w=>by
  show ((w.setCell ⟨g,o,none⟩ v).setCells g (o+1) vs).heap[b]?=_;rw[Hv hb vs (o+1),Below.heap_setCell _ _ _ _ hb]
theorem Eb {g B:Nat}{a:World}(hg:B<=g):∀(vs:List Value) (o:Nat) (w:World),Below B a w->Below B a (w.setCells g o vs)
 | [],_,_,h=>h
 | v :: vs,o,w,h=>Eb hg vs (o+1) (w.setCell ⟨g,o,none⟩ v) (h.setCell hg v)
theorem H6.next {K:Nat->Prop}{w1 wr w':World}{gk g c:Nat}{h:El}{ts:List Ty}{i:Nat}{F:List Ty}(r:H6 K w1 wr gk g c h ts i F) (hi:i<ts.length) (hk:Fa h ts[i]=false) (hb:Below wr.heap.size wr w'):H6 K w1 w' gk g c h ts (i+1) F:=by
 have hA:gk<wr.heap.size:=(Array.getElem?_eq_some_iff.1 r.kb).1;refine⟨hi,?_,?_,r.below.trans (hb.mono r.below.size),r.row.later hb⟩
 ·rw[K0 hi,hk,r.f];simp
 ·unfold KB;rw[hb.block _ hA];exact r.kb
theorem H6.push {K:Nat->Prop}{w1 wr wy:World}{gk g c:Nat}{h:El}{ts:List Ty}{i:Nat}{F:List Ty}{cs:List Value}(r:H6 K w1 wr gk g c h ts i F) (hi:i<ts.length) (hk:Fa h ts[i]=true) (hb:Below wr.heap.size wr wy) (hg:w1.heap.size<=g) (ht:Aw K w1 ts[i] cs) :
  H6 K w1 (wy.setCells g (F.length*6) cs) gk g c h ts (i+1) (F++[ts[i]]):=by
 have hA:gk<wr.heap.size:=(Array.getElem?_eq_some_iff.1 r.kb).1;have hB:gk≠g:=by
  rintro rfl;obtain⟨cur,h1,_⟩:=r.row.blk;rw[r.kb]at h1;injection h1 with h1
  injection h1 with _ h1
  exact absurd h1 (by decide)
 have hf:=r.fle;refine⟨hi,?_,?_,Eb hg cs _ _ (r.below.trans (hb.mono r.below.size)),(r.row.later hb).put (by omega) ht⟩
 ·rw[K0 hi,hk,r.f];simp
 ·unfold KB;rw[Hv hB,hb.block _ hA];exact r.kb
theorem Fc.pre {K:Nat->Prop}{w0 w:World}{g c:Nat}{F R:List Ty}(h:Fc K w0 w g c (F++R)):Fc K w0 w g c F:=by
 have:=h.le;rw[List.length_append]at this;refine⟨by omega,h.mx,h.blk,fun i t hi=>h.reps i t ?_⟩;rw[List.getElem?_append_left (List.getElem?_eq_some_iff.1 hi).1];exact hi
def P4 (l:List Ty) (i:Nat):Bool:=match l[i]? with
 | none=>true
 | some t=>!(t.k == 15) && (match i with|0=>true|j+1=>match l[j]? with|none=>true|some p=>decide (B5 p t<0))
def H5 (l:List Ty):Bool:=(List.range l.length).all (P4 l) && l.all (Fa (D1 l))
theorem Jce {l:List Ty}{i:Nat}:(∀j,j<i+1->P4 l j=true)↔(∀j,j<i->P4 l j=true)/\P4 l i=true:=
 ⟨fun h=>⟨fun j hj=>h j (by omega),h i (by omega)⟩,fun h j hj=>by rcases Nat.lt_or_ge j i with h1|h1;exact h.1 j h1;rw[show j=i from by omega];exact h.2⟩
theorem Et {n:Nat}{p:Nat->Bool}:(List.range n).all p=true↔∀j,j<n->p j=true:=by simp[List.all_eq_true]
theorem Ux {l:List Ty}{i:Nat}(hi:i<l.length) (h:P4 l i=false):H5 l=false:=by
 unfold H5;rw[Bool.and_eq_false_iff];exact .inl (Bool.eq_false_iff.2 fun h2=>by have:=Et.1 h2 i hi;rw[h]at this;cases this)
theorem Wx {l:List Ty}{i:Nat}(hi:i<l.length) (h:Fa (D1 l) l[i]=false):H5 l=false:=by
 unfold H5;rw[Bool.and_eq_false_iff];exact .inr (Bool.eq_false_iff.2 fun h2=>by have:=List.all_eq_true.1 h2 l[i] (List.getElem_mem hi);rw[h]at this;cases this)
theorem Xd {l:List Ty}{i:Nat}(h:i<l.length) (x:El):Id x (l.take (i+1))=Jf (Id x (l.take i)) l[i].k:=by
 rw[List.take_succ_eq_append_getElem h,M5];rfl
structure IsR (w wr:World) (l:List Ty) (i:Nat):Prop where
 le:i<=l.length
 ok:∀j,j<i->P4 l j=true
 kb:KB wr w.heap.size (Id ⟨false,false,false,false⟩ (l.take i))
 below:Below w.heap.size w wr
theorem IsR.lt {w wr:World}{l:List Ty}{i:Nat}(h:IsR w wr l i):w.heap.size<wr.heap.size:=(Array.getElem?_eq_some_iff.1 h.kb).1
theorem IsR.next {w wr wy wz:World}{l:List Ty}{i:Nat}(h:IsR w wr l i) (hi:i<l.length) (hA:P4 l i=true) (hy:Below wr.heap.size wr wy) (hk:KB wz w.heap.size (Jf (Id ⟨false,false,false,false⟩ (l.take i)) l[i].k)) (hs:Ku w.heap.size wy wz):IsR w wz l (i+1):=
 ⟨hi,Jce.2 ⟨h.ok,hA⟩,by rw[Xd hi];exact hk,hs.below (h.below.trans (hy.mono h.below.size)) (Nat.le_refl _)⟩
theorem Jb5 {K:Nat->Prop}{w:World}{l:List Ty}{A:Option Addr}{c:Nat}(hL:Bk K w l A c) :
  Calls Tryz.prog 137 #[.slice A l.length c] w fun e w'=>e=.returned (.bool (H5 l))/\Below w.heap.size w w':=by
 have HL:=Hd hL;have kN:=hL.short;have kJ:Z9 (IsR w (w.alloc (.cells #[.bool false,.bool false,.bool false,.bool false] 143)) l 0):=Hd ⟨Nat.zero_le _,fun j hj=>absurd hj (by omega),heap_alloc_new w _,(Below.refl _ _).alloc (Nat.le_refl _) _⟩;clear hL;go_enter Tryz.func137,Tryz.ntmps137;go_wp2_with fail
 go_loopw [8] (fun v wr=>∃i:Nat,v=.int .i64 (i:Int)/\IsR w wr l i) (fun v _=>l.length - (intOf v).toNat)
 case atStart=>exact⟨0,rfl,kJ.o⟩
 case round=>
  obtain⟨i,rfl,hr⟩:=hrel;have HR:=Hd hr;have hW:=hr.le;by_cases hE:i<l.length
  ·have t1:decide ((i:Int)<(l.length:Int))=true:=by simp;omega
   have hM:wrap64 ((i:Int)+1)=((i+1:Nat):Int):=Ba (by omega);have HM:=Hd (Bg hE);obtain⟨b,o,hA,_,hI⟩:=HL.o.at (by omega);subst hA;have hP:l[i]?=some l[i]:=List.getElem?_eq_getElem hE;have hX:=Hd fun (j:Nat) (hj:j<l.length)=>(hI j hj).later hr.below;obtain⟨k,hk,hT⟩:∃k,l[i].k=k/\wr.cell? ⟨b,o+i*6,none⟩=some (.int .i64 k):=by
    have h1:=hX.o i hE;generalize l[i]=t at h1;obtain⟨k,s,n,ps,fs,vs⟩:=t;obtain⟨_,_,_,_,_,_,⟨x0,_⟩,_⟩:=h1.six;exact⟨k,rfl,x0⟩
   have hN:Z9 (∀wx,Below wr.heap.size wr wx->wx.cell? ⟨b,o+i*6,none⟩=some (.int .i64 k)):=Hd fun wx hx=>Aa hx hT;have hD:Z9 (∀wy,Below wr.heap.size wr wy->Calls Tryz.prog 138 #[.pointer (some ⟨w.heap.size,0,none⟩),.pointer (some ⟨b,o+i*6,none⟩)] wy fun e w'=>e=.returned (.tuple #[])/\KB w' w.heap.size (Jf (Id ⟨false,false,false,false⟩ (l.take i)) k)/\Ku w.heap.size wy w'):=Hd fun wy hy=>Va (by unfold KB;rw[hy.block _ hr.lt];exact hr.kb) (Aa hy hT);have hQ:Z9 (P4 l i=true->∀wy wz,Below wr.heap.size wr wy->KB wz w.heap.size (Jf (Id ⟨false,false,false,false⟩ (l.take i)) k)->Ku w.heap.size wy wz->IsR w wz l (i+1)):=Hd fun kM wy wz hy kL hs=>hr.next hE kM hy (by rw[hk];exact kL) hs;by_cases hC:k=15
   ·have hO:Z9 (H5 l=false):=Hd (Ux hE (by unfold P4;rw[hP];simp[hk,hC]));have hH:=Hd hr.below;clear hI hr hW hP hT hQ hD hk;subst hC;go_wp2_with fail;refine wp_region_held_drew (S:=(fun w'=>w'.cell? ⟨b,o+i*6,none⟩=some (.int .i64 15))) (by kernel_rfl) (hN.o _ (Below.refl _ _).drew) (fun hB=>?_);refine Ab.s [0,1,2,3,4,5,6] ?_
    iterate 7 (refine Ab.k (so rfl) hB ?_;try simp only[Act.put,Bd,Be,Bf])
    refine Ab.d ?_;refine Ab.s [7,8,9,10,11,12,13,14,15,16,17,18,19] ?_
    iterate 13 (refine Ab.t (v:=undef) (so rfl) (by kernel_rfl) (by kernel_rfl) (by kernel_rfl) (fun _ _ _ h=>h) (Or.inr ⟨by rfl,rfl⟩) hB ?_;try simp only[Act.put,Bd,Be,Bf])
    refine Ab.d ?_;refine Ab.s [20] ?_;refine Ab.k (so rfl) hB ?_;try simp only[Act.put,Bd,Be,Bf]
    refine Ab.d ?_;refine wpAnyH_done (by kernel_rfl) ?_ _;clear hB;clear hN HR;go_wp2_with fail;go_ret
    exact⟨by rw[hO.o];rfl,hH.o.drew⟩
   ·have tk:(k == 15)=false:=by simpa using hC
    cases i with
    | zero=>
     have hR:Z9 (P4 l 0=true):=Hd (by unfold P4;rw[hP];simp[hk,hC]);simp only[Nat.zero_mul,Nat.add_zero]at hN hD;clear hI hr hW hP hT hk hC;go_wp2_with fail;refine wp_region_held_drew (S:=(fun w'=>w'.cell? ⟨b,o,none⟩=some (.int .i64 k))) (by kernel_rfl) (hN.o _ (Below.refl _ _).drew) (fun hB=>?_);refine Ab.s [0,1,2,3,4,5,6,7,8,9] ?_
     iterate 10 (refine Ab.k (so rfl) hB ?_;try simp only[Act.put,Bd,Be,Bf])
     refine Ab.d ?_;refine Ab.s [10,11,12,13,14,15,16,17,18] ?_
     iterate 9 (refine Ab.t (v:=undef) (so rfl) (by kernel_rfl) (by kernel_rfl) (by kernel_rfl) (fun _ _ _ h=>h) (Or.inr ⟨by rfl,rfl⟩) hB ?_;try simp only[Act.put,Bd,Be,Bf])
     refine Ab.d ?_;refine Ab.s [19,20] ?_
     iterate 2 (refine Ab.k (so rfl) hB ?_;try simp only[Act.put,Bd,Be,Bf])
     refine Ab.d ?_;refine wpAnyH_done (by kernel_rfl) ?_ _;clear hB;go_wp2_with fail;refine (hD.o _ (Below.refl _ _).drew).mono ?_;rintro e w3 ⟨rfl,hF,hU⟩;have hY:=Hd (hQ.o hR.o _ _ (Below.refl _ _).drew hF hU);clear hF hU hD hQ;go_wp2_with fail;refine⟨⟨0+1,by first|rfl|rw[hM],hY.o⟩,?_⟩;first|exact HM.o|(rw[hM];exact HM.o)
    | succ i=>
     have hG:Z9 (∀wx,Below wr.heap.size wr wx->Calls Tryz.prog 104 #[.pointer (some ⟨b,o+i*6,none⟩),.pointer (some ⟨b,o+(i+1)*6,none⟩)] wx fun e w'=>e=.returned (.int .i64 (B5 l[i] l[i+1]))/\Gw wx w'):=Hd fun wx hx=>(Kd l[i] K K l[i+1]).ok wx _ _ _ _ ((hX.o i (by omega)).later hx) ((hX.o (i+1) hE).later hx);have hJ:P4 l (i+1)=decide (B5 l[i] l[i+1]<0):=by
      unfold P4;rw[hP];show (!(l[i+1].k == 15) && (match l[i]? with|none=>true|some p=>decide (B5 p l[i+1]<0)))=_;rw[List.getElem?_eq_getElem (by omega:i<l.length)];simp[hk,hC]
     have hO:Z9 (B5 l[i] l[i+1]<0\/H5 l=false):=Hd (by
      by_cases h0:B5 l[i] l[i+1]<0
      ·exact .inl h0
      ·exact .inr (Ux hE (by rw[hJ];simpa using h0)))
     have hS:=Hd hJ;have hH:=Hd hr.below;generalize B5 l[i] l[i+1]=oo at hG hO hS;have kA:wrap64 (((i+1:Nat):Int) - 1)=((i:Nat):Int):=(by rw[Cm (by omega) (by omega)];omega);have wr1':IntKind.i64.wrap (((i+1:Nat):Int) - 1)=((i:Nat):Int):=by
      have e:IntKind.i64.wrap (((i+1:Nat):Int) - 1)=wrap64 (((i+1:Nat):Int) - 1):=(by unfold wrap64;exact IntKind.wrap_i64 _);rw[e,kA]
     have kB:wrap64 (i:Int)=(i:Int):=Cm (by omega) (by omega);have wr3':IntKind.i64.wrap (i:Int)=(i:Int):=by
      have e:IntKind.i64.wrap (i:Int)=wrap64 (i:Int):=(by unfold wrap64;exact IntKind.wrap_i64 _);rw[e,kB]
     have i0:(0:Int)<=(i:Int)+1:=(by omega);have i1:(i:Int)+1<(l.length:Int):=(by omega);have i2:(0:Int)<=(i:Int):=(by omega);have i3:(i:Int)<(l.length:Int):=(by omega);have i4:(0:Int)<(i:Int)+1:=(by omega);clear hI hr hW hP hT hk hC hJ;go_wp2_with fail;refine wp_region_held_drew (S:=(fun w'=>w'.cell? ⟨b,o+(i+1)*6,none⟩=some (.int .i64 k))) (by kernel_rfl) (hN.o _ (Below.refl _ _).drew) (fun hB=>?_);refine Ab.s [0,1,2,3,4,5,6,7,8,9,10,11,12,13,14,15,16] ?_
     iterate 17 (refine Ab.k (so rfl) hB ?_;try simp only[Act.put,Bd,Be,Bf])
     refine Ab.d ?_;refine wpAnyH_ready (rs:=[17]) (by kernel_rfl) (by simp) ?_;refine AllReadyH.cons (sd (some 28) rfl) (fun K hK=>?_) AllReadyH.nil;go_simp;refine (hG.o _ (Below.refl _ _).drew).mono ?_;rintro e w2 ⟨rfl,kD⟩;have hV:=Hd ((Below.refl wr.heap.size wr).drew.trans kD.below);clear kD;go_wp2_with fail;refine hK.out _ _ (hN.o _ hV.o) (fun hB=>?_);clear hK K;try simp only[Act.put,Bd,Be,Bf]
     refine Ab.s [18,19,20] ?_
     iterate 3 (refine Ab.k (so rfl) hB ?_;try simp only[Act.put,Bd,Be,Bf])
     refine Ab.d ?_;refine wpAnyH_done (by kernel_rfl) ?_ _;clear hB;by_cases h0:oo<0
     ·have h1:¬ (0<=oo):=(by omega);have hR:Z9 (P4 l (i+1)=true):=Hd (by rw[hS.o];simpa using h0);clear i0 i1 i2 i3 i4 kA wr1' kB wr3' hG h0;go_wp2_with fail;refine (hD.o _ hV.o).mono ?_;rintro e w3 ⟨rfl,hF,hU⟩;have hY:=Hd (hQ.o hR.o _ _ hV.o hF hU);clear hF hU hD hQ;go_wp2_with fail;refine⟨⟨(i+1)+1,by first|rfl|rw[hM],hY.o⟩,?_⟩;first|exact HM.o|(rw[hM];exact HM.o)
     ·have h1:0<=oo:=(by omega);have kI:Z9 (H5 l=false):=Hd (hO.o.resolve_left h0);clear i0 i1 i2 i3 i4 kA wr1' kB wr3' hG h0;go_wp2_with fail;go_ret
      exact⟨by rw[kI.o];rfl,hH.o.trans (hV.o.mono hH.o.size)⟩
  ·have t1:decide ((i:Int)<(l.length:Int))=false:=by simp;omega
   have kK:i=l.length:=by omega
   have hR:Z9 ((List.range l.length).all (P4 l)=true):=Hd (Et.2 fun j hj=>hr.ok j (by omega));have kH:Z9 (KB wr w.heap.size (D1 l)):=Hd (by have h:=hr.kb;rw[List.take_of_length_le (by omega),M6]at h;exact h);have hH:=Hd hr.below;clear hr hW kK HR;go_wp2_with fail
   go_loopw [39] (fun v wx=>∃i:Nat,i<=l.length/\v=.int .i64 (i:Int)/\(∀j (h:j<l.length),j<i->Fa (D1 l) l[j]=true)/\wx=wr) (fun v _=>l.length - (intOf v).toNat)
   case atStart=>exact⟨0,by omega,rfl,fun j _ hj=>absurd hj (by omega),rfl⟩
   case round=>
    obtain⟨i,hi,rfl,kE,rfl⟩:=hrel;have kC:=Hd kE;clear kE;by_cases hE:i<l.length
    ·have t1:decide ((i:Int)<(l.length:Int))=true:=(by simp;omega);have hM:wrap64 ((i:Int)+1)=((i+1:Nat):Int):=Ba (by omega);have HM:=Hd (Bg hE);obtain⟨b,o,hA,_,hI⟩:=HL.o.at (by omega);subst hA;have KK:=Hd (Ru (t:=l[i]) kH.o ((hI i hE).later hH.o));have kF:=Hd hE;generalize hq:Fa (D1 l) l[i]=qq at KK
     cases qq with
     | false=>
      have hO:Z9 (H5 l=false):=Hd (Wx hE hq);clear hq hI hi;go_wp2_with fail;refine KK.o.mono ?_;rintro e w2 ⟨rfl,rfl⟩;go_wp2_with fail;go_ret
      exact⟨by rw[hO.o];rfl,hH.o⟩
     | true=>
      have kG:Z9 (∀j (h:j<l.length),j<i+1->Fa (D1 l) l[j]=true):=Hd fun j h hj=>by
       rcases Nat.lt_or_ge j i with h1|h1
       ·exact kC.o j h h1
       ·have:j=i:=by omega
        subst this;exact hq
      clear hq hI hi;go_wp2_with fail;refine KK.o.mono ?_;rintro e w2 ⟨rfl,rfl⟩;go_wp2_with fail;refine⟨⟨i+1,kF.o,by first|rfl|rw[hM],kG.o,by first|rfl|trivial⟩,?_⟩;first|exact HM.o|(rw[hM];exact HM.o)
    ·have t1:decide ((i:Int)<(l.length:Int))=false:=(by simp;omega);have hZ:Z9 (H5 l=true):=Hd (by
      unfold H5;rw[hR.o,Bool.true_and,List.all_eq_true];intro x hx;obtain⟨j,hj,rfl⟩:=List.getElem_of_mem hx;exact kC.o j hj (by omega))
     clear hi;go_wp2_with fail;go_ret
     exact⟨by rw[hZ.o];rfl,hH.o⟩
theorem Se (k:Int) (hk:(Ak k).known=true):∃lo hi,Ak k=⟨false,false,false,false,lo,hi,true⟩\/Ak k=⟨false,true,false,false,lo,hi,true⟩\/Ak k=⟨true,false,false,false,lo,hi,true⟩\/Ak k=⟨false,false,false,true,lo,hi,true⟩\/Ak k=⟨false,false,true,false,lo,hi,true⟩\/Ak k=⟨true,true,false,false,lo,hi,true⟩:=by
 unfold Ak at hk ⊢;by_cases h:1<=k/\k<=8
 ·simp only[if_pos h];exact⟨0,0,(.inl rfl)⟩
 simp only[if_neg h]at hk ⊢;clear h;by_cases h:k=9
 ·simp only[if_pos h];exact⟨0,0,(.inr (.inl rfl))⟩
 simp only[if_neg h]at hk ⊢;clear h;by_cases h:k=10\/k=16\/k=22
 ·simp only[if_pos h];exact⟨0,0,(.inr (.inr (.inl rfl)))⟩
 simp only[if_neg h]at hk ⊢;clear h;by_cases h:k=11\/k=18
 ·simp only[if_pos h];exact⟨1,1,(.inl rfl)⟩
 simp only[if_neg h]at hk ⊢;clear h;by_cases h:k=12
 ·simp only[if_pos h];exact⟨0,(-1),(.inl rfl)⟩
 simp only[if_neg h]at hk ⊢;clear h;by_cases h:k=13
 ·simp only[if_pos h];exact⟨1,(-1),(.inr (.inr (.inr (.inl rfl))))⟩
 simp only[if_neg h]at hk ⊢;clear h;by_cases h:k=14
 ·simp only[if_pos h];exact⟨0,0,(.inr (.inr (.inr (.inr (.inl rfl)))))⟩
 simp only[if_neg h]at hk ⊢;clear h;by_cases h:k=15\/k=23
 ·simp only[if_pos h];exact⟨2,(-1),(.inl rfl)⟩
 simp only[if_neg h]at hk ⊢;clear h;by_cases h:k=17
 ·simp only[if_pos h];exact⟨0,(-1),(.inr (.inr (.inl rfl)))⟩
 simp only[if_neg h]at hk ⊢;clear h;by_cases h:k=19
 ·simp only[if_pos h];exact⟨2,2,(.inl rfl)⟩
 simp only[if_neg h]at hk ⊢;clear h;by_cases h:k=20
 ·simp only[if_pos h];exact⟨2,2,(.inr (.inr (.inr (.inr (.inr rfl)))))⟩
 simp only[if_neg h]at hk ⊢;clear h;by_cases h:k=21
 ·simp only[if_pos h];exact⟨4,4,(.inr (.inr (.inr (.inr (.inr rfl)))))⟩
 simp only[if_neg h]at hk ⊢;clear h
 cases hk
theorem Yk {k:Int}(hk:(Ak k).known=true) {w:World}{b o np nf nv c1 c2 c3:Nat}{t:Z8}{n:Int}{A1 A2 A3:Option Addr}(x1:w.cell? ⟨b,o+1,none⟩=some (.string t)) (x2:w.cell? ⟨b,o+2,none⟩=some (.int .i64 n)) (x3:w.cell? ⟨b,o+3,none⟩=some (.slice A1 np c1)) (x4:w.cell? ⟨b,o+4,none⟩=some (.slice A2 nf c2)) (x5:w.cell? ⟨b,o+5,none⟩=some (.slice A3 nv c3)) :
  Calls Tryz.prog 95 #[Cn (Ak k),.pointer (some ⟨b,o,none⟩)] w fun e w'=>e=.returned (.bool (Ao (Ak k) t n np nf nv))/\Below w.heap.size w w':=by
 obtain⟨lo,hi,h⟩:=Se k hk;rcases h with h|h|h|h|h|h
 ·rw[h];exact V8 x1 x2 x3 x4 x5
 ·rw[h];exact Wb x1 x2 x3 x4 x5
 ·rw[h];exact Wc x1 x2 x3 x4 x5
 ·rw[h];exact V9 x1 x2 x3 x4 x5
 ·rw[h];exact Wa x1 x2 x3 x4 x5
 ·rw[h];exact Wd x1 x2 x3 x4 x5
def F5 (t:Ty) (r:Bool):Prop:=∀(K:Nat->Prop) (w:World) (b o:Nat),De K w t b o->Calls Tryz.prog 64 #[.pointer (some ⟨b,o,none⟩)] w fun e w'=>e=.returned (.bool r)/\Below w.heap.size w w'
def Fq (t:Ty) (r:Bool):Prop:=∀(K:Nat->Prop) (w:World) (b o:Nat),De K w t b o->Calls Tryz.prog 96 #[.pointer (some ⟨b,o,none⟩)] w fun e w'=>e=.returned (.bool r)/\Below w.heap.size w w'
theorem P9 {α:Type}{l:List α}{p:α->Bool}{i:Nat}(h:i<l.length):(l.drop i).all p=(p l[i] && (l.drop (i+1)).all p):=by rw[List.drop_eq_getElem_cons h,List.all_cons]
theorem Wt (k:Int) (t:Z8) (n:Int) (ps:List Ty) (fs:Bx) (vs:Bt) (sv:Bool) (fv:Ty->Bool) (hs:Fq (.mk k t n ps fs vs) sv) (hp:∀p∈ps,F5 p (fv p)) :
  F5 (.mk k t n ps fs vs) ((Ak k).known && Ao (Ak k) t n ps.length fs.length vs.length && sv && ps.all fv):=by
 intro K w b o h;obtain⟨A,c,A2,c2,A3,c3,⟨x0,x1,x2,x3,x4,x5⟩,-,hP,-⟩:=h.six;have KS:=Hd (Xe k w);have KF:Z9 ((Ak k).known=true->∀wx,Below w.heap.size w wx->Calls Tryz.prog 95 #[Cn (Ak k),.pointer (some ⟨b,o,none⟩)] wx fun e w'=>e=.returned (.bool (Ao (Ak k) t n ps.length fs.length vs.length))/\Below wx.heap.size wx w'):=Hd fun hk wx hx=>Yk hk (Aa hx x1) (Aa hx x2) (Aa hx x3) (Aa hx x4) (Aa hx x5);have KX:Z9 (∀wx,Below w.heap.size w wx->Calls Tryz.prog 96 #[.pointer (some ⟨b,o,none⟩)] wx fun e w'=>e=.returned (.bool sv)/\Below wx.heap.size wx w'):=Hd fun wx hx=>hs K wx b o (h.later hx);have HX:Z9 (∀wx,Below w.heap.size w wx->wx.cell? ⟨b,o+3,none⟩=some (.slice A ps.length c)):=Hd fun wx hx=>Aa hx x3;have HN:Z9 (∀wx i (hi:i<ps.length),Below w.heap.size w wx->∃pb po,A=some ⟨pb,po,none⟩/\Calls Tryz.prog 64 #[.pointer (some ⟨pb,po+i*6,none⟩)] wx fun e w'=>e=.returned (.bool (fv ps[i]))/\Below wx.heap.size wx w'):=Hd fun wx i hi hx=>by
  obtain⟨pb,po,hA,_,hr⟩:=hP.at (by omega);exact⟨pb,po,hA,hp _ (List.getElem_mem hi) K wx pb _ ((hr i hi).later hx)⟩
 have hlp:=hP.short;clear h hs hp hP x1 x2 x3 x4 x5;generalize Ao (Ak k) t n ps.length fs.length vs.length=fb at KF ⊢;generalize Ak k=s at KS KF ⊢;obtain⟨st,sn,sf,s4,lo,hi,kn⟩:=s;simp only[Cn]at KS KF ⊢
 cases kn with
 | false=>
  clear KF KX HX HN;go_enter Tryz.func64,Tryz.ntmps64;go_wp2_with fail;refine KS.o.mono ?_;rintro e w1 ⟨rfl,hB⟩;have hC:=Hd hB;clear hB;go_wp2_with fail;go_ret
  exact⟨rfl,hC.o.alloc hC.o.size _⟩
 | true=>
  have hJ:Z9 (∀wx,Below w.heap.size w wx->Calls Tryz.prog 95 #[.agg #[.bool st,.bool sn,.bool sf,.bool s4,.int .i64 lo,.int .i64 hi],.pointer (some ⟨b,o,none⟩)] wx fun e w'=>e=.returned (.bool fb)/\Below wx.heap.size wx w'):=Hd (KF.o rfl);clear KF;go_enter Tryz.func64,Tryz.ntmps64;go_wp2_with fail;refine KS.o.mono ?_;rintro e w1 ⟨rfl,hB⟩;have hC:Z9 (Below w.heap.size w (w1.alloc (.cells #[.bool st,.bool sn,.bool sf,.bool s4,.int .i64 lo,.int .i64 hi] 138))):=Hd (hB.alloc hB.size _);clear hB KS;go_wp2_with fail;refine (hJ.o _ hC.o).mono ?_;rintro e w2 ⟨rfl,hK⟩;have hE:=Hd (Cx hC.o hK);clear hK hJ
  cases fb with
  | false=>
   go_wp2_with fail;go_ret
   exact⟨rfl,hE.o⟩
  | true=>
   go_wp2_with fail;refine (KX.o _ hE.o).mono ?_;rintro e w3 ⟨rfl,hL⟩;have hF:=Hd (Cx hE.o hL);clear hL KX
   cases sv with
   | false=>
    go_wp2_with fail;go_ret
    exact⟨rfl,hF.o⟩
   | true=>
    have y3:=HX.o _ hF.o;go_wp2_with fail;clear y3
    go_loopw [32] (fun v wr=>∃(i:Nat),i<=ps.length/\v=.int .i64 i/\ps.all fv=(ps.drop i).all fv/\Below w.heap.size w wr) (fun v _=>ps.length - (intOf v).toNat)
    case atStart=>exact⟨0,by omega,rfl,by rw[List.drop_zero],hF.o⟩
    case round=>
     obtain⟨i,hi,rfl,he,hH⟩:=hrel;have HE:=Hd he;have hG:=Hd hH;have y3:=HX.o _ hH;clear he hH;by_cases hD:i<ps.length
     ·have t1:decide ((i:Int)<(ps.length:Int))=true:=(by simp;omega);have hO:wrap64 ((i:Int)+1)=((i+1:Nat):Int):=Ba (by omega);obtain⟨pb,po,hA,hN⟩:=HN.o _ i hD hG.o;have KN:=Hd hN;have HS:=Hd (P9 (p:=fv) hD);have HM:=Hd (Bg hD);have hR:=Hd hD;subst hA;generalize hr:fv ps[i]=r at KN HS;clear hN hi hr;go_wp2_with fail;refine KN.o.mono ?_;rintro e w4 ⟨rfl,hM⟩;have hI:=Hd (Cx hG.o hM);clear hM y3
      cases r with
      | false=>
       go_wp2_with fail;go_ret
       exact⟨by rw[HE.o,HS.o];rfl,hI.o⟩
      | true=>
       go_wp2_with fail;refine⟨⟨i+1,hR.o,by first|rfl|rw[hO],by rw[HE.o,HS.o];rfl,hI.o⟩,?_⟩;first|exact HM.o|(rw[hO];exact HM.o)
     ·have t1:decide ((i:Int)<(ps.length:Int))=false:=(by simp;omega);have hQ:Z9 (ps.all fv=true):=Hd (by rw[HE.o,List.drop_eq_nil_of_le (by omega)];rfl);clear hi y3;go_wp2_with fail;go_ret
      exact⟨by rw[hQ.o];rfl,hG.o⟩
