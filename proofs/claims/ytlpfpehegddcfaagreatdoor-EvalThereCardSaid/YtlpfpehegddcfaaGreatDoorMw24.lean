import Derived.Test.YtlpfpehegddcfaaGreatDoorMw23
namespace Go.Proofs.YtlpfpehegddcfaaGreatDoor
set_option maxRecDepth 100000
set_option maxHeartbeats 64000000
open Go.RowKit
theorem Cm.but {O:Nat->Prop}{w w':World}{l:List Z8}{A:Option Addr}(h:Cm w l A) (hb:Ad O w w') (hA:∀b o,A=some ⟨b,o,none⟩->¬ O b):Cm w' l A:=by
 obtain⟨b,o,h1,h2,h3⟩:=h;exact⟨b,o,h1,h2,fun i hi=>hb.cell (hA b o (h1 (by omega))) (h3 i hi)⟩
def cI (l:List Z8) (x:Z8):Nat:=l.countP fun y=>decide (y=x)
theorem Jde (l:List Z8) (y x:Z8):cI (l++[y]) x=cI l x+(if y=x then 1 else 0):=by
 unfold cI;rw[List.countP_append,List.countP_cons,List.countP_nil];by_cases h:y=x <;> simp[h]
theorem Jdc (l:List Z8) (y x:Z8):cI (y :: l) x=cI l x+(if y=x then 1 else 0):=by
 unfold cI;rw[List.countP_cons];by_cases h:y=x <;> simp[h]
theorem Jgn (l:List Z8) (x:Z8):decide (cI l x=0) = !Dp l x:=by
 unfold cI Dp
 induction l with
 | nil=>rfl
 | cons a l ih=>
  rw[List.countP_cons,List.any_cons];by_cases h:a=x
  ·simp[h]
  ·simp only[h,decide_false,Bool.false_or,Bool.false_eq_true,if_false,Nat.add_zero];exact ih
theorem Vu (l:List Z8) (x:Z8):cI l x<=l.length:=List.countP_le_length
structure F3 (U:List Z8) (w:World) (g mb mf:Nat) (c:Z8->Nat) (S:Z8->Bool):Prop where
 box:w.heap[g]?=some (.cells #[.map (some mb),.map (some mf)] 188 (0,0))
 bnd:∃F n,Da Jfo w mb n F/\n<=(U.filter fun x=>(F x).isSome).length/\∀x,(F x).getD 0=(c x:Int)
 fre:∃F n,Da Hu w mf n F/\n<=(U.filter fun x=>(F x).isSome).length/\∀x,(F x).isSome=S x
 ne:mb≠mf/\g≠mb/\g≠mf
theorem F3.same {U:List Z8}{w:World}{g mb mf:Nat}{c c':Z8->Nat}{S S':Z8->Bool}(h:F3 U w g mb mf c S) (hc:∀x,c x=c' x) (hS:∀x,S x=S' x):F3 U w g mb mf c' S':=by
 rw[<-funext hc,<-funext hS];exact h
theorem F3.later {U:List Z8}{w w':World}{g mb mf:Nat}{c:Z8->Nat}{S:Z8->Bool}(h:F3 U w g mb mf c S) (hb:Below w.heap.size w w'):F3 U w' g mb mf c S:=by
 obtain⟨h1,⟨F,n,h2,h3⟩,⟨F',n',h4,h5⟩,h6⟩:=h;exact⟨(hb.block g (Array.getElem?_eq_some_iff.1 h1).1).trans h1,⟨F,n,h2.later hb,h3⟩,⟨F',n',h4.later hb,h5⟩,h6⟩
theorem F3.lt {U:List Z8}{w:World}{g mb mf:Nat}{c:Z8->Nat}{S:Z8->Bool}(h:F3 U w g mb mf c S):g<w.heap.size/\mb<w.heap.size/\mf<w.heap.size:=by
 obtain⟨h1,⟨F,n,h2,h3⟩,⟨F',n',h4,h5⟩,h6⟩:=h;exact⟨(Array.getElem?_eq_some_iff.1 h1).1,h2.lt,h4.lt⟩
theorem F3.cell {U:List Z8}{w:World}{g mb mf:Nat}{c:Z8->Nat}{S:Z8->Bool}(h:F3 U w g mb mf c S):w.cell? ⟨g,0,none⟩=some (.map (some mb))/\w.cell? ⟨g,1,none⟩=some (.map (some mf)):=
 ⟨by rw[Ch h.box];rfl,by rw[Ch h.box];rfl⟩
theorem F3.look {U:List Z8}{w:World}{g mb mf:Nat}{c:Z8->Nat}{S:Z8->Bool}(h:F3 U w g mb mf c S) (s:Z8) (hs:s.size<=maxLen):(Instr.lookup 185 (.map (some mb)) (.string s) false).run Tryz.prog w=.ok (.int .i64 (c s:Int)) w:=by
 obtain⟨F,n,h2,h3,h4⟩:=h.bnd;have h5:(Instr.lookup 185 (.map (some mb)) (.string s) false).run Tryz.prog w=.ok (.int .i64 ((F s).getD 0)) w:=h2.look1 s hs;rw[h4]at h5;exact h5
theorem Iy {α:Type}{p q:α->Bool}(hA:∀x,p x=true->q x=true):∀(l:List α),(l.filter p).length<=(l.filter q).length
 | []=>Nat.le_refl _
 | a :: l=>by
  have ih:=Iy hA l;rw[List.filter_cons,List.filter_cons];by_cases h:p a=true
  ·rw[if_pos h,if_pos (hA a h)];simpa using ih
  ·rw[if_neg h];by_cases h2:q a=true
   ·rw[if_pos h2,List.length_cons];omega
   ·rw[if_neg h2];exact ih
theorem Nu {α:Type}{p q:α->Bool}(hA:∀x,p x=true->q x=true):∀(l:List α) (a:α),a∈l->p a=false->q a=true->(l.filter p).length+1<=(l.filter q).length
 | b :: l,a,h,h1,h2=>by
  rw[List.filter_cons,List.filter_cons];rcases List.mem_cons.1 h with rfl|h
  ·rw[if_neg (by simp[h1]),if_pos h2,List.length_cons];have:=Iy hA l;omega
  ·have ih:=Nu hA l a h h1 h2;by_cases h3:p b=true
   ·rw[if_pos h3,if_pos (hA b h3),List.length_cons,List.length_cons];omega
   ·rw[if_neg h3];by_cases h4:q b=true
    ·rw[if_pos h4,List.length_cons];omega
    ·rw[if_neg h4];exact ih
theorem Da.putU {α:Type}{M:MK Tryz.prog α}{U:List Z8}{W:World}{b n:Nat}{F:Z8->Option α}(h:Da M W b n F) (hn:n<=(U.filter fun x=>(F x).isSome).length) (hU:U.length<maxLen) (s:Z8) (hC:s∈U) (hs:s.size<=maxLen) (a:α) :
  ∃w' n',(Instr.mapUpdate M.T (.map (some b)) (.string s) (M.val a)).run Tryz.prog W=.ok () w'/\Da M w' b n' (Ip F s a)/\n'<=(U.filter fun x=>(Ip F s a x).isSome).length/\W.grownBy w' (some b):=by
 have hB:=List.length_filter_le (fun x=>(F x).isSome) U;have hA:∀x,(F x).isSome=true->(Ip F s a x).isSome=true:=fun x hx=>by
  unfold Ip;by_cases e:s=x
  ·rw[if_pos e];rfl
  ·rw[if_neg e];exact hx
 by_cases hp:(F s).isSome=true
 ·obtain⟨w',h1,h2,h3⟩:=h.putH (by omega) s hs a hp;exact⟨w',n,h1,h2,Nat.le_trans hn (Iy hA U),h3⟩
 ·obtain⟨w',h1,h2,h3⟩:=h.putL (by omega) s hs a;refine⟨w',n+1,h1,h2,Nat.le_trans (Nat.add_le_add_right hn 1) (Nu hA U s hC (by simpa using hp) ?_),h3⟩;unfold Ip;rw[if_pos rfl];rfl
theorem Jh {w w':World}{b:Nat}(h:w.grownBy w' (some b)):Ad (fun x=>x=b) w w':=
 (Ad.refl (fun x=>x=b) w).grown h fun k hk=>.inl (by injection hk with hk;exact hk.symm)
theorem F3.put {U:List Z8}{w:World}{g mb mf:Nat}{c:Z8->Nat}{S:Z8->Bool}(h:F3 U w g mb mf c S) (hU:U.length<maxLen) (s:Z8) (hA:s∈U) (hs:s.size<=maxLen) (v:Nat) :
  ∃w',(Instr.mapUpdate 185 (.map (some mb)) (.string s) (.int .i64 (v:Int))).run Tryz.prog w=.ok () w'/\F3 U w' g mb mf (fun x=>if s=x then v else c x) S/\Ad (fun x=>x=mb) w w':=by
 obtain⟨h1,⟨F,n,h2,h3,h4⟩,⟨F',n',h5,h6,h7⟩,h8⟩:=h;obtain⟨w',n2,hr,hm,hn,hg⟩:=h2.putU h3 hU s hA hs (v:Int);have hb:=Jh hg;refine⟨w',hr,⟨hb.up h8.2.1 h1,⟨_,n2,hm,hn,fun x=>?_⟩,⟨F',n',h5.keep (hb.block mf h5.lt (fun e=>h8.1 e.symm)),h6,h7⟩,h8⟩,hb⟩;unfold Ip;by_cases e:s=x
 ·rw[if_pos e,if_pos e];rfl
 ·rw[if_neg e,if_neg e];exact h4 x
theorem F3.add {U:List Z8}{w:World}{g mb mf:Nat}{c:Z8->Nat}{S:Z8->Bool}(h:F3 U w g mb mf c S) (hU:U.length<maxLen) (s:Z8) (hA:s∈U) (hs:s.size<=maxLen) :
  ∃w',(Instr.mapUpdate 186 (.map (some mf)) (.string s) (.agg #[])).run Tryz.prog w=.ok () w'/\F3 U w' g mb mf c (fun x=>decide (s=x) || S x)/\Ad (fun x=>x=mf) w w':=by
 obtain⟨h1,⟨F,n,h2,h3,h4⟩,⟨F',n',h5,h6,h7⟩,h8⟩:=h;obtain⟨w',n2,hr,hm,hn,hg⟩:=h5.putU h6 hU s hA hs ();have hb:=Jh hg;refine⟨w',hr,⟨hb.up h8.2.2 h1,⟨F,n,h2.keep (hb.block mb h2.lt h8.1),h3,h4⟩,⟨_,n2,hm,hn,fun x=>?_⟩,h8⟩,hb⟩;unfold Ip;by_cases e:s=x
 ·rw[if_pos e];simp[e]
 ·rw[if_neg e,h7];simp[e]
def Jx (U:List Z8) (g mb mf:Nat) (w:World) (c:Z8->Nat) (S:Z8->Bool) (f:Z8->Bool):Ending->World->Prop:=fun e w'=>e=.returned (.tuple #[])/\F3 U w' g mb mf c (fun x=>S x || (decide (c x=0) && f x))/\Ad (fun x=>x=mb\/x=mf) w w'
def Nk (t:Ty):Prop:=∀(K:Nat->Prop) (U:List Z8) (g mb mf:Nat) (w:World) (bp op:Nat) (c:Z8->Nat) (S:Z8->Bool),Dm K w t bp op->bp≠mb/\bp≠mf->(∀x,K x->x<w.heap.size/\x≠mb/\x≠mf)->F3 U w g mb mf c S->(∀x∈Fp t,x∈U)->U.length<maxLen->(∀x,c x+Am t*1000000000000002<=9000000000000000000)->Ai t=true->Dy t=true->Calls Tryz.prog 153 #[.pointer (some ⟨g,0,none⟩),.pointer (some ⟨bp,op,none⟩)] w (Jx U g mb mf w c S fun x=>Bx x t)
theorem Nd {α:Type}{f g:α->Nat}:∀ {l:List α},(∀a∈l,f a<=g a)->(l.map f).sum<=(l.map g).sum
 | [],_=>Nat.le_refl _
 | a :: l,h=>by
  rw[List.map_cons,List.map_cons,List.sum_cons,List.sum_cons];exact Nat.add_le_add (h a List.mem_cons_self) (Nd fun b hb=>h b (List.mem_cons_of_mem _ hb))
theorem Lb {f:Ty->Ty}{l:List Ty}(h:∀p∈l,Am (f p)<=Am p):Au (l.map f)<=Au l:=by
 unfold Au;rw[List.map_map];exact Nd h
theorem Ph {x:Z8}{u:Ty}{cut:Nat->Bool}:∀ {l:List Ty}{j:Nat},(∀p∈l,Am (Bg x u p)<=Am p)->Au (Er x u cut j l)<=Au l
 | [],_,_=>Nat.le_refl _
 | p :: l,j,h=>by
  rw[Er,Cj,Cj];refine Nat.add_le_add ?_ (Ph fun q hq=>h q (List.mem_cons_of_mem _ hq));by_cases hc:cut j=true
  ·rw[if_pos hc];exact Nat.le_refl _
  ·rw[if_neg hc];exact h p List.mem_cons_self
theorem Qn {x:Z8}{u:Ty}(hu:Am u=1) (t:Ty):Am (Bg x u t)<=Am t:=by
 refine Ty.ind (C:=fun t=>Am (Bg x u t)<=Am t) (fun k t n ps fs vs hp hf hv=>?_) t;rw[Fb,B0 k t n ps fs vs];by_cases h1:(k == 16 && decide (t=x))=true
 ·rw[if_pos h1,hu];omega
 ·rw[if_neg h1];by_cases h2:(k == 15)=true
  ·rw[if_pos h2];have h3:=Pi (ps.map (Bg x u));have h4:Au (ps.map (Bg x u))<=Au ps:=Lb hp;omega
  ·rw[if_neg h2,B0];have h3:Au (Er x u (fun i=>Ff vs x || Dz k t n ps i x) 0 ps)<=Au ps:=Ph hp;have h4:Bm (fs.map fun f=>(f.1,f.2.1,Bg x u f.2.2))<=Bm fs:=by
    unfold Bm;rw[List.map_map];exact Nd hf
   have h5:Br (vs.map fun v=>(v.1,v.2.map fun b=>if Ff vs x=true then b else Bg x u b))<=Br vs:=by
    unfold Br;rw[List.map_map];refine Nd fun v hA=>Lb fun b hb=>?_;by_cases h6:Ff vs x=true
    ·rw[if_pos h6];exact Nat.le_refl _
    ·rw[if_neg h6];exact hv v hA b hb
   omega
theorem Ss {x:Z8}{t:Z8}{n:Int}{ps:List Ty}{fs:Bv}(h:Bx x (.mk 15 t n ps fs [])=false):∀p∈ps,Bx x p=false:=by
 rw[Fd,Bool.or_eq_false_iff]at h;have h2:=h.2;simp only[Ff,List.any_nil,Bool.not_false,Bool.true_and,Bool.or_eq_false_iff]at h2;have h3:∀(l:List Ty) (j:Nat),Fl x (fun i=>Dz 15 t n ps i x) j l=false->∀p∈l,Bx x p=false:=by
  intro l
  induction l with
  | nil=>intro j _ p h;cases h
  | cons a l ih=>
   intro j h p hA;rw[Fl,Bool.or_eq_false_iff]at h;rcases List.mem_cons.1 hA with rfl|hA
   ·have h4:=h.1;simpa [Dz] using h4
   ·exact ih (j+1) h.2 p hA
 exact h3 ps 0 h2.2.1
theorem Ly {x:Z8}{u:Ty}{cut:Nat->Bool}(h:∀i,cut i=false):∀ {l:List Ty}{j:Nat},Er x u cut j l=l.map (Bg x u)
 | [],_=>rfl
 | p :: l,j=>by rw[Er,if_neg (by rw[h j];decide),Ly h,List.map_cons]
theorem Ix {x s:Z8}{k n:Int}{ps:List Ty}(hA:k≠20) (hB:k≠21) (i:Nat):Dz k s n ps i x=false:=by
 unfold Dz;rw[show (k == 20)=false from beq_eq_false_iff_ne.2 hA,show (k == 21)=false from beq_eq_false_iff_ne.2 hB];rfl
theorem Y6 {x:Z8}{u:Ty}{k n:Int}{s:Z8}{ps:List Ty}(hA:k≠15) (hB:k≠20) (hC:k≠21) (hD:x=s->k≠16):Bg x u (.mk k s n ps [] [])=.mk k s n (ps.map (Bg x u)) [] []:=by
 have h1:¬ (k == 16 && decide (s=x))=true:=fun h=>by
  rw[Bool.and_eq_true,beq_iff_eq,decide_eq_true_eq]at h;exact hD h.2.symm h.1
 rw[Fb,if_neg h1,if_neg (by rw[show (k == 15)=false from beq_eq_false_iff_ne.2 hA];decide),Ly fun i=>by rw[Ix hB hC];rfl];rfl
theorem Ja5 {x:Z8}{k n:Int}{s:Z8}{ps:List Ty}(hB:k≠20) (hC:k≠21) (h:Bx x (.mk k s n ps [] [])=false):∀p∈ps,Bx x p=false:=by
 rw[Fd,Bool.or_eq_false_iff]at h;have h2:=h.2;simp only[Ff,List.any_nil,Bool.not_false,Bool.true_and,Bool.or_eq_false_iff]at h2;have h3:∀(l:List Ty) (j:Nat),Fl x (fun i=>Dz k s n ps i x) j l=false->∀p∈l,Bx x p=false:=by
  intro l
  induction l with
  | nil=>intro j _ p h;cases h
  | cons a l ih=>
   intro j h p hA;rw[Fl,Bool.or_eq_false_iff]at h;rcases List.mem_cons.1 hA with rfl|hA
   ·have h4:=h.1;rw[Ix hB hC]at h4;simpa using h4
   ·exact ih (j+1) h.2 p hA
 exact h3 ps 0 h2.2.1
theorem Jgj (hU:Jw) {K:Nat->Prop}{w:World}(s:Z8) (n:Int) (ps:List Ty) (fs:Bv) (vs:Bw) (s3:Z8) (n3:Int) (ps3:List Ty) (fs3:Bv) (vs3:Bw) {cs ds:List Value}(hr:An K w (.mk 14 s n ps fs vs) cs) (hp:An K w (.mk 10 s3 n3 ps3 fs3 vs3) ds) (hA:∀b,K b->b<w.heap.size) (hI:Ai (.mk 14 s n ps fs vs)=true) (hc:Am (.mk 14 s n ps fs vs)<=1000000) :
  Calls Tryz.prog 85 #[.agg cs.toArray,.agg ds.toArray] w (Ek K w (Gj fs s3)):=by
 generalize hu:Gj fs s3=u;obtain⟨k2,s2,n2,hE,hC,hF⟩:=u;refine Jfv hr hp hA fun A c A' c' A'' c'' A3 c3 B3 d3 C3 e3 w1 g hP hQ h=>?_;clear hr hp;subst hP hQ;obtain⟨HB1,HS1,HX0,HY0,HX1,HW1,HG,HR,HP,HL,HL3,HLO1,hlp,hlp3⟩:=h;have hM:=Hd hA;have HU:=Hd hU;have hN:=Hd hu;have hH:=HB1.o;have hS:=HS1.o;have hV:=HX0.o;have hX:=HY0.o;have hr:=HR.o;have hp:=HP.o;have hL:=HL.o;have hO:=HL3.o;have hW:=HX1.o;have hT:=HW1.o;have hR:=HG.o;have kc:=Rn (K:=K) (w:=w1) hU (hr.later hH) (fun b h=>by have:=hA b h;omega) hI rfl hc s3;have KC:Z9 (Calls Tryz.prog 122 #[.agg #[.int .i64 14,.string s,.int .i64 n,.slice A ps.length c,.slice A' fs.length c',.slice A'' vs.length c''],.string s3] w1 (Ek K w1 (Gj fs s3))):=Hd kc;clear kc hI hc;unfold Ek;clear hr hp hA hU hH hS hV hX hW hT hR hL hO hu;go_enter Tryz.func85,Tryz.ntmps85;go_upto_region 1 with fail
 rw[<-HW1.o,<-HG.o];obtain⟨x0,x1,x2,x3,x4,x5⟩:=Dw HX0.o;obtain⟨y0,y1,y2,y3,y4,y5⟩:=Dw HY0.o;go_wp2_with fail;refine KC.o.mono ?_;rintro e w2 ⟨rs,rfl,hJ,hD⟩;have hK:=Hd (HB1.o.trans (hD.mono HB1.o.size));have rb:=Ay hD (by have:=HG.o;have:=HS1.o;omega) HX1.o;have hB:An (fun b=>K b\/g<b) w2 (Gj fs s3) rs:=hJ.weak fun b h=>h.imp id fun h=>by have:=HG.o;have:=HS1.o;omega
 rw[hN.o]at hB;obtain⟨Aq,cq,Ag,cg,Ah,ch,rfl,-⟩:=hB.inv;have hG:=Hd hB;simp only[Ao]at hG ⊢;clear hJ hD hB KC x0 x1 x2 x3 x4 x5 y0 y1 y2 y3 y4 y5;obtain⟨q0,q1,q2,q3,q4,q5,z0,z1,z2,z3,z4,z5⟩:=Hr rb;have RBX:=Hd rb;clear rb;go_wp2_with fail;have rs:=Bt RBX.o (.int .i64 k2) (.string s2) (.int .i64 n2) (.slice Aq hE.length cq) (.slice Ag hC.length cg) (.slice Ah hF.length ch);obtain⟨r0,r1,r2,r3,r4,r5⟩:=Dw rs;clear q0 q1 q2 q3 q4 q5 z0 z1 z2 z3 z4 z5 RBX rs;refine bodyPost_ret (v:=.agg #[.int .i64 k2,.string s2,.int .i64 n2,.slice Aq hE.length cq,.slice Ag hC.length cg,.slice Ah hF.length ch]) (by simp[results,Tryz.results85,go_sem,r0,r1,r2,r3,r4,r5]) rfl ?_;clear r0 r1 r2 r3 r4 r5;exact⟨[.int .i64 k2,.string s2,.int .i64 n2,.slice Aq hE.length cq,.slice Ag hC.length cg,.slice Ah hF.length ch],rfl,Fw (hG.o) (fun b h=>by have:=hM.o b h;have:=HG.o;omega) (by have:=HG.o;omega) _ _ _ _ _ _,Bj (hK.o) (by have:=HG.o;omega) _ _ _ _ _ _⟩
structure Jgx (k:Int) (t:Z8) (n:Int) (ps:List Ty) (fs:Bv) (vs:Bw) (K:Nat->Prop) (w:World) (A:Option Addr) (c:Nat) (A':Option Addr) (c':Nat) (A'':Option Addr) (c'':Nat) (w1:World):Prop where
 HXC:Z9 (∀wx,Below w1.heap.size w1 wx->wx.cell? ⟨w.heap.size,0,none⟩=some (.int .i64 k)/\wx.cell? ⟨w.heap.size,1,none⟩=some (.string t)/\wx.cell? ⟨w.heap.size,2,none⟩=some (.int .i64 n)/\wx.cell? ⟨w.heap.size,3,none⟩=some (.slice A ps.length c)/\wx.cell? ⟨w.heap.size,4,none⟩=some (.slice A' fs.length c')/\wx.cell? ⟨w.heap.size,5,none⟩=some (.slice A'' vs.length c''))
 KAll:Z9 (∀wx,Below w1.heap.size w1 wx->Calls Tryz.prog 69 #[.slice A ps.length c] wx fun e w'=>e=.returned (.bool (ps.all Ai))/\Below wx.heap.size wx w')
 KPl:Z9 (∀wx,Calls Tryz.prog 70 #[.agg #[.int .i64 k,.string t,.int .i64 n,.slice A ps.length c,.slice A' fs.length c',.slice A'' vs.length c'']] wx fun e w'=>e=.returned (.bool (t.toList == [] && n == 0))/\Below wx.heap.size wx w')
 KNm:Z9 (∀wx,Calls Tryz.prog 16 #[.string t] wx fun e w'=>e=.returned (.bool (Ca t))/\Below wx.heap.size wx w')
 KOb:Z9 (∀wx,Below w1.heap.size w1 wx->Calls Tryz.prog 72 #[.slice A' fs.length c'] wx fun e w'=>e=.returned (.bool (Cd (Bn fs Ai)))/\Below wx.heap.size wx w')
 KBi:Z9 (∀wx,Below w1.heap.size w1 wx->Calls Tryz.prog 71 #[.slice A'' vs.length c''] wx fun e w'=>e=.returned (.bool (Ef (Dh vs Ai)))/\Below wx.heap.size wx w')
 KOv:Z9 (∀wx,Below w1.heap.size w1 wx->Calls Tryz.prog 73 #[.slice A ps.length c] wx fun e w'=>e=.returned (.bool (Ju ps))/\w'=wx)
 HREP:Z9 (An K w (.mk k t n ps fs vs) [.int .i64 k,.string t,.int .i64 n,.slice A ps.length c,.slice A' fs.length c',.slice A'' vs.length c''])
 HCN:Z9 (1+(Au ps+(Bm fs+Br vs))<=1000000)
 HBZ:Z9 (Below w.heap.size w w1)
 HB:Z9 (Below w1.heap.size w1 w1)
 HS1:Z9 (w1.heap.size=w.heap.size+1)
 HX0:Z9 (w1.heap[w.heap.size]?=some (.cells #[.int .i64 k,.string t,.int .i64 n,.slice A ps.length c,.slice A' fs.length c',.slice A'' vs.length c''] 26 (0,0)))
 HW1:Z9 (w1=w.alloc (.cells #[.int .i64 k,.string t,.int .i64 n,.slice A ps.length c,.slice A' fs.length c',.slice A'' vs.length c''] 26))
 hlp:ps.length<=1000000000000000
 hlf:fs.length<=1000000000000000
 hlv:vs.length<=1000000000000000
theorem Bc (k:Int) (t:Z8) (n:Int) (ps:List Ty) (fs:Bv) (vs:Bw) (hp:∀p∈ps,Aj p) (hf:∀f∈fs,Aj f.2.2) (hv:∀v∈vs,∀b∈v.2,Aj b)
  (main:∀(K:Nat->Prop) (w:World) (A:Option Addr) (c:Nat) (A':Option Addr) (c':Nat) (A'':Option Addr) (c'':Nat) (w1:World),Jgx k t n ps fs vs K w A c A' c' A'' c'' w1 ->
   Calls Tryz.prog 38 #[.agg #[.int .i64 k,.string t,.int .i64 n,.slice A ps.length c,.slice A' fs.length c',.slice A'' vs.length c'']] w fun e w'=>e=.returned (.bool (Ai (.mk k t n ps fs vs)))/\Below w.heap.size w w'):Aj (.mk k t n ps fs vs):=by
 intro K w cs hB hc;obtain⟨A,c,A',c',A'',c'',rfl,hH,hL,hF,hV⟩:=hB.inv;simp only[Ao];obtain⟨w1,hC⟩:∃x,x=w.alloc (.cells #[.int .i64 k,.string t,.int .i64 n,.slice A ps.length c,.slice A' fs.length c',.slice A'' vs.length c''] 26):=⟨_,rfl⟩;have hA:Below w.heap.size w w1:=by rw[hC];exact (Below.refl _ _).alloc (Nat.le_refl _) _
 have hG:w1.heap.size=w.heap.size+1:=by rw[hC];simp
 have hD:w1.heap[w.heap.size]?=some (.cells #[.int .i64 k,.string t,.int .i64 n,.slice A ps.length c,.slice A' fs.length c',.slice A'' vs.length c''] 26 (0,0)):=by rw[hC];exact heap_alloc_new w _
 have HXC:Z9 (∀wx,Below w1.heap.size w1 wx->wx.cell? ⟨w.heap.size,0,none⟩=some (.int .i64 k)/\wx.cell? ⟨w.heap.size,1,none⟩=some (.string t)/\wx.cell? ⟨w.heap.size,2,none⟩=some (.int .i64 n)/\wx.cell? ⟨w.heap.size,3,none⟩=some (.slice A ps.length c)/\wx.cell? ⟨w.heap.size,4,none⟩=some (.slice A' fs.length c')/\wx.cell? ⟨w.heap.size,5,none⟩=some (.slice A'' vs.length c'')):=Hd fun wx hx=>by
  have h:=Ay hx (by omega) hD;exact⟨Ch h 0,Ch h 1,Ch h 2,Ch h 3,Ch h 4,Ch h 5⟩
 have hE:1+(Au ps+(Bm fs+Br vs))<=1000000:=by rw[<-B0 k t n ps fs vs];exact hc
 have KAll:=Hd fun wx (hx:Below w1.heap.size w1 wx)=>Vo ps hp (hL.later (hA.trans (hx.mono hA.size))) (by omega);have KPl:=Hd fun wx=>Yx (w:=wx) k t n A ps.length c A' fs.length c' A'' vs.length c'';have KNm:=Hd fun wx=>Ks t wx hH;have KOb:=Hd fun wx (hx:Below w1.heap.size w1 wx)=>Uw fs hf (hF.later (hA.trans (hx.mono hA.size))) (by omega);have hlv:vs.length<=1000000000000000:=by obtain⟨_,_,hr,_⟩:=hV;exact hr.big
 have KBi:=Hd fun wx (hx:Below w1.heap.size w1 wx)=>W0 vs hv (hV.later (hA.trans (hx.mono hA.size))) hlv (by omega);have KOv:=Hd fun wx (hx:Below w1.heap.size w1 wx)=>Jbz (hL.later (hA.trans (hx.mono hA.size)));have HREP:=Hd hB;have HL:=Hd hL;have HCN:=Hd hE;have HBZ:=Hd hA;have HB:Z9 (Below w1.heap.size w1 w1):=Hd (Below.refl _ _);have HS1:=Hd hG;have HX0:=Hd hD;have HW1:=Hd hC;have hlp:=hL.short;have hlf:=hF.shortF;have HP:=Hd hp;have HF':=Hd hf;have HV':=Hd hv;exact main K w A c A' c' A'' c'' w1 ⟨HXC,KAll,KPl,KNm,KOb,KBi,KOv,HREP,HCN,HBZ,HB,HS1,HX0,HW1,hlp,hlf,hlv⟩
theorem I2 {w:World}{g y:Nat}{v0 v1 v2 v3 v4 v5:Value}{p:Addr}(h:p.block≠g\/p.off<y\/y+6<=p.off):(E9 w g y v0 v1 v2 v3 v4 v5).cell? p=w.cell? p:=by
 have hA:∀i,i<6->(⟨g,y+i,none⟩:Addr)≠p:=fun i hi e=>by
  subst e;rcases h with h|h|h
  ·exact h rfl
  ·have h:y+i<y:=h;omega
  ·have h:y+6<=y+i:=h;omega
 unfold E9;rw[World.cell?_setCell_other _ _ _ _ (hA 5 (by omega)),World.cell?_setCell_other _ _ _ _ (hA 4 (by omega)),World.cell?_setCell_other _ _ _ _ (hA 3 (by omega)),World.cell?_setCell_other _ _ _ _ (hA 2 (by omega)),World.cell?_setCell_other _ _ _ _ (hA 1 (by omega)),World.cell?_setCell_other _ _ _ _ (show (⟨g,y,none⟩:Addr)≠p from hA 0 (by omega))]
theorem Fv {O:Nat->Prop}{a w:World}{g y:Nat}{v0 v1 v2 v3 v4 v5:Value}(h:Ad O a w) (hg:O g\/a.heap.size<=g):Ad O a (E9 w g y v0 v1 v2 v3 v4 v5):=
 (((((h.set (p:=⟨g,y,none⟩) hg v0).set (p:=⟨g,y+1,none⟩) hg v1).set (p:=⟨g,y+2,none⟩) hg v2).set (p:=⟨g,y+3,none⟩) hg v3).set (p:=⟨g,y+4,none⟩) hg v4).set (p:=⟨g,y+5,none⟩) hg v5
theorem Kz {P:Nat->Prop}{w:World}{g y:Nat}{v0 v1 v2 v3 v4 v5:Value}{t:Ty}{cs:List Value}(hP:∀x,P x->x≠g) (hr:An P w t cs):An P (E9 w g y v0 v1 v2 v3 v4 v5) t cs:=
 An.keep (fun _ h=>h) (fun b o v hk hc=>by rw[I2 (.inl (hP b hk))];exact hc) t cs hr
structure PlT (P:Nat->Prop) (w:World) (g:Nat) (l:List Ty):Prop where
 lt:g<w.heap.size
 cell:∀y,y<l.length*6->∃v,w.cell? ⟨g,y,none⟩=some v
 free:∀y,w.frozen? ⟨g,y,none⟩=false
 reps:∀i (h:i<l.length),∃cs,An P w l[i] cs/\∀j u,cs[j]?=some u->w.cell? ⟨g,i*6+j,none⟩=some u
theorem Km {w w':World}{g y:Nat}(h:w'.heap[g]?=w.heap[g]?) (h0:w.frozen? ⟨g,y,none⟩=false):w'.frozen? ⟨g,y,none⟩=false:=by
 unfold World.frozen? at h0 ⊢;simp only at h0 ⊢;rw[h];exact h0
theorem PlT.set {P:Nat->Prop}{w:World}{g i:Nat}{l:List Ty}{t:Ty}{v0 v1 v2 v3 v4 v5:Value}(h:PlT P w g l) (hP:∀x,P x->x≠g) (hi:i<l.length) (ht:An P w t [v0,v1,v2,v3,v4,v5]):PlT P (E9 w g (i*6) v0 v1 v2 v3 v4 v5) g (l.set i t):=by
 refine⟨by rw[Ls];exact h.lt,fun y hy=>?_,fun y=>?_,fun k hk=>?_⟩
 ·rw[List.length_set]at hy;exact Bu (Bu (Bu (Bu (Bu (Bu (h.cell y hy))))))
 ·simp only[E9,World.frozen?_setCell];exact h.free y
 ·rw[List.length_set]at hk;by_cases e:i=k
  ·subst e;refine⟨_,by rw[List.getElem_set_self];exact Kz hP ht,fun j u hj=>Q6 (fun x hx=>h.cell _ (by omega)) j u hj⟩
  ·obtain⟨cs,h1,h2⟩:=h.reps k hk;have h6:=h1.six;refine⟨cs,by rw[List.getElem_set_ne e];exact Kz hP h1,fun j u hj=>?_⟩;have hA:=(List.getElem?_eq_some_iff.1 hj).1;rw[I2 (.inr (by show k*6+j<i*6\/i*6+6<=k*6+j;omega))];exact h2 j u hj
theorem PlT.list {P:Nat->Prop}{w:World}{g c:Nat}{l:List Ty}(h:PlT P w g l) (hc:l.length<=c) (hl:l.length<=1000000000000000):Bh (fun x=>P x\/x=g) w l (some ⟨g,0,none⟩) c:=
 ⟨g,0,⟨hc,hl,(fun h=>by cases h),fun _=>⟨rfl,.inr rfl⟩⟩,fun i hi=>by
  obtain⟨cs,h1,h2⟩:=h.reps i hi;exact⟨cs,fun j u hj=>by rw[Nat.zero_add];exact h2 j u hj,h1.weak fun b hb=>.inl hb⟩⟩
theorem Ru {K:Nat->Prop}{w:World}{l:List Ty}{b o c:Nat}(hL:∀i (h:i<l.length),Dm K w l[i] b (o+i*6)) (hn:l.length<=1000000) :
  Calls Tryz.prog 66 #[.slice (some ⟨b,o,none⟩) l.length c] w fun e w'=>∃g c',e=.returned (.slice (some ⟨g,0,none⟩) l.length c')/\w.heap.size<=g/\l.length<=c'/\PlT K w' g l/\Below w.heap.size w w':=by
 obtain⟨news,h1,h2,h3,h4⟩:=Lw hL;refine (Nq ⟨b,o,none⟩ l.length c news w hn h1 h3 fun j u hj=>?_).mono ?_
 ·have e2:((⟨b,o,none⟩:Addr).add j)=⟨b,o+j,none⟩:=by unfold Addr.add;by_cases h0:j=0 <;> simp[h0]
  rw[e2];exact h2 j u hj
 ·rintro e w' ⟨g,c',rfl,hg,hD,hc,hC,hb⟩;refine⟨g,c',rfl,hg,hc,?_,hb⟩;rcases hC.2 with ⟨hv,hz⟩|⟨g',cap,cur,hv,hB,hh,hH,hE,hI,hF⟩
  ·cases hv
  ·injection hv with hv _ _
   injection hv with hv
   injection hv with hv
   subst hv;have hA:∀y u,news[y]?=some u->w'.cell? ⟨g,y,none⟩=some u:=fun y u hy=>by
    rw[<-hF,List.getElem?_take]at hy
    split at hy
    ·rw[Ch hh];simpa using hy
    ·cases hy
   refine⟨hD,fun y hy=>?_,fun y=>Lib.frozen_of_heap hh y,fun i hi=>?_⟩
   ·have hG:y<news.length:=(by omega);exact⟨news[y],hA y _ (List.getElem?_eq_getElem hG)⟩
   ·obtain⟨cs,h5,h6⟩:=h4 i hi;exact⟨cs,h5.later hb,fun j u hj=>hA _ u (h6 j u hj)⟩
