import Derived.Test.YtlpfpehegddcfaaGreatDoorMx37
namespace Go.Proofs.YtlpfpehegddcfaaGreatDoor
set_option maxRecDepth 100000
set_option maxHeartbeats 64000000
open Go.RowKit
theorem J4 {K Kt Z:Nat->Prop}{wk sb:Nat}{n0:Z8}{w:World}{m:Option Nat}{act:Bool}{N:List Z8}{A:Option Addr}{c:Nat}{cs:List Value}{t u:Ty}{nd:Nat}
  (hN:Cg w N A) (hB:∀b o,A=some ⟨b,o,none⟩->b≠sb) (hr:Aw Kt w t cs) (hC:∀x,Kt x->x<w.heap.size) (hK:∀x,K x->x<w.heap.size/\x≠sb/\x≠wk) (hE:Cp wk sb n0 w m act) (hS:Ce K Z w sb u nd) (hZ:Z sb) (hD:∀x,Z x->x<w.heap.size) (hH:wk<w.heap.size)
  (hF:Aj t=true/\Dk t=true/\Am t<=5000) (hG:Aj u=true/\Dk u=true/\Am u<=5000) (hA:act=true->Bp n0 t=true->Dc N n0=false->∀x∈N,Bp x u=false) :
  Calls Tryz.prog 83 #[.slice A N.length c,.agg cs.toArray,.map m] w (fun e w'=>∃m',e=.returned (.tuple #[.slice A N.length c,.map m'])/\Cp wk sb n0 w' m' (Ff act N n0 t)/\Ce K Z w' sb u nd/\Ad (fun x=>x=sb) w w'/\∀b,m'=some b->m=some b\/w.heap.size<=b):=by
 cases act with
 | false=>
  obtain⟨k,s,n,ps,fs,vs⟩:=t;obtain⟨A1,c1,B1,d1,C1,e1,rfl,-⟩:=hr.inv;simp only[Az];refine (Sv hE).mono ?_;rintro e w' ⟨rfl,hb⟩;exact⟨none,rfl,rfl,hS.but (Ad.of_below (O:=fun _=>False) hb) (fun h=>h) (fun x h=>h.elim) fun _ _ h=>h,Ad.of_below hb,fun b e=>by cases e⟩
 | true=>
  cases N with
  | nil=>
   obtain⟨k,s,n,ps,fs,vs⟩:=t;obtain⟨A1,c1,B1,d1,C1,e1,rfl,-⟩:=hr.inv;simp only[Az,List.length_nil];refine (Oa hE).mono ?_;rintro e w' ⟨rfl,hb⟩;exact⟨m,rfl,hE.but (Ad.of_below (O:=fun _=>False) hb) fun x h=>h.elim,hS.but (Ad.of_below (O:=fun _=>False) hb) (fun h=>h) (fun x h=>h.elim) fun _ _ h=>h,Ad.of_below hb,fun b e=>.inl e⟩
  | cons x N=>
   refine (Jp hN hB (Nat.succ_pos _) hr hC hK hE hS hZ hD hH hF hG (fun y hy=>Nat.le_trans (Lt t cs hr y (Rl y t hy)) (by decide)) (hA rfl)).mono ?_;rintro e w' ⟨m',h1,h2,h3,h4,h5⟩;exact⟨m',h1,h2,h3,h4,fun b e=>.inr (h5 b e)⟩
theorem Ov {P:Nat->Prop}{w:World}{g:Nat}{t0 t1 t2 t3:Ty}{c0 c1 c2 c3:List Value}(h0:Aw P w t0 c0) (h1:Aw P w t1 c1) (h2:Aw P w t2 c2) (h3:Aw P w t3 c3) (hx:w.heap[g]?=some (.cells (c0++(c1++(c2++c3))).toArray 26 (0,0))):Bk (fun x=>P x\/x=g) w [t0,t1,t2,t3] (some ⟨g,0,none⟩) 4:=
 ⟨g,0,⟨Nat.le_refl _,by show 4<=_;omega,(fun h=>by cases h),fun _=>⟨rfl,.inr rfl⟩⟩,fun i hi=>by
  have e0:=h0.six;have e1:=h1.six;have e2:=h2.six;have hc:∀j u,(c0++(c1++(c2++c3)))[j]?=some u->w.cell? ⟨g,j,none⟩=some u:=fun j u hj=>by rw[Ch hx];simpa using hj
  match i,hi with
  | 0,_=>exact⟨c0,fun j u hj=>by have h9:=hc j u (by rw[List.getElem?_append_left (List.getElem?_eq_some_iff.1 hj).1];exact hj);simpa using h9,h0.weak fun x h=>.inl h⟩
  | 1,_=>exact⟨c1,fun j u hj=>by
    have hA:=(List.getElem?_eq_some_iff.1 hj).1;have h9:=hc (1*6+j) u (by rw[List.getElem?_append_right (by omega),List.getElem?_append_left (by omega),show 1*6+j - c0.length=j by omega];exact hj);simpa using h9,h1.weak fun x h=>.inl h⟩
  | 2,_=>exact⟨c2,fun j u hj=>by
    have hA:=(List.getElem?_eq_some_iff.1 hj).1;have h9:=hc (2*6+j) u (by rw[List.getElem?_append_right (by omega),List.getElem?_append_right (by omega),List.getElem?_append_left (by omega),show 2*6+j - c0.length - c1.length=j by omega];exact hj);simpa using h9,h2.weak fun x h=>.inl h⟩
  | 3,_=>exact⟨c3,fun j u hj=>by
    have hA:=(List.getElem?_eq_some_iff.1 hj).1;have h9:=hc (3*6+j) u (by rw[List.getElem?_append_right (by omega),List.getElem?_append_right (by omega),List.getElem?_append_right (by omega),show 3*6+j - c0.length - c1.length - c2.length=j by omega];exact hj);simpa using h9,h3.weak fun x h=>.inl h⟩⟩
theorem L9 {K:Nat->Prop}{w:World}{bp op:Nat}{p0 p1 p2 p3:Ty}{A:Option Addr}{c:Nat}(hx:w.cell? ⟨bp,op+3,none⟩=some (.slice A 4 c)) (hP:Bk K w [p0,p1,p2,p3] A c) (hK:∀x,K x->x<w.heap.size) :
  Calls Tryz.prog 116 #[.pointer (some ⟨bp,op,none⟩)] w fun e w'=>∃rs,e=.returned (.agg rs.toArray)/\Aw (fun x=>K x\/w.heap.size<=x) w' (Fl [p0,p1,p2,p3]) rs/\Below w.heap.size w w':=by
 obtain⟨w1,hF⟩:∃x,x=w.alloc (.cells #[.int .i64 0,.string ⟨#[]⟩,.int .i64 0,.slice none 0 0,.slice none 0 0,.slice none 0 0] 26):=⟨_,rfl⟩;obtain⟨g,hg⟩:∃g,g=w.heap.size:=⟨_,rfl⟩;have hG:Below w.heap.size w w1:=by rw[hF];exact (Below.refl _ _).alloc (Nat.le_refl _) _
 have hz:w1.heap[g]?=some (.cells #[.int .i64 0,.string ⟨#[]⟩,.int .i64 0,.slice none 0 0,.slice none 0 0,.slice none 0 0] 26 (0,0)):=by rw[hF,hg];exact heap_alloc_new w _
 have hR:w1.heap.size=g+1:=by rw[hF,hg];simp
 have x3:=Aa hG hx;have hJ:=Qg (hP.later hG) (by show 4<=_;omega);simp only[List.length_cons,List.length_nil]at hJ;have KC:=Hd hJ;have HW1:=Hd hF;have HG:=Hd hg;have hS:=Hd hG;have HZ:=Hd hz;have HS1:=Hd hR;have HK:=Hd hK;clear hx hP hK hF hg hG hz hR hJ;go_enter Tryz.func116,Tryz.ntmps116;go_upto_region 1 with fail
 rw[<-HW1.o,<-HG.o];go_wp2_with fail;refine KC.o.mono ?_;rintro e w2 ⟨A5,c5,rfl,hM,hO⟩;obtain⟨gp,rfl,hQ,hN,hA⟩:∃gp,A5=some ⟨gp,0,none⟩/\w1.heap.size<=gp/\4<=c5/\PlT K w2 gp [p0,p1,p2,p3]:=by
  rcases hO with ⟨h,-⟩|⟨gp,h1,h2,h3,h4⟩
  ·cases h
  ·exact⟨gp,h1,h2,h3,h4⟩
 obtain⟨⟨u0',q0⟩,⟨u1',q1⟩,⟨u2',q2⟩,⟨u3',q3⟩,⟨u4',q4⟩,⟨u5',q5⟩⟩:=hA.six (i:=0) (Nat.succ_pos _);have f0:=hA.free 0;have f1:=hA.free 1;have f2:=hA.free 2;have f3:=hA.free 3;have f4:=hA.free 4;have f5:=hA.free 5;have hC:=hA.set (i:=0) (t:=Hi 1) (v0:=.int .i64 1) (v1:=.string ⟨#[]⟩) (v2:=.int .i64 0) (v3:=.slice none 0 0) (v4:=.slice none 0 0) (v5:=.slice none 0 0) (fun x hx e=>by have h1:=HK.o x hx;have h2:=HS1.o;have h3:=HG.o;omega) (Nat.succ_pos _) (Jdf K w2 1);obtain⟨w3,hH⟩:∃x,x=Ey w2 gp (0*6) (.int .i64 1) (.string ⟨#[]⟩) (.int .i64 0) (.slice none 0 0) (.slice none 0 0) (.slice none 0 0):=⟨_,rfl⟩;have hE:Ad (fun x=>x=gp) w2 w3:=by rw[hH];exact Fi (Ad.refl _ _) (.inl rfl)
 rw[<-hH]at hC;have hB:Ad (fun _=>False) w1 w3:=(Ad.of_below (O:=fun _=>False) hM).trans hE fun x h=>.inr (by have e:x=gp:=h;omega);have rb:=hB.up (fun h=>h) HZ.o;have HL:=Hd (hC.list (c:=c5) hN (by show 4<=_;omega));have hI:=Hd hB;have hT:=Hd hQ;have hD:=Hd hH;clear hO hQ hN hA hC hE hB hM hH KC x3;simp only[Nat.zero_mul,Nat.zero_add]at q0 q1 q2 q3 q4 q5 hD;go_upto_region 3 with fail
 first|rw[<-hD.o]|(rw[show Ey w2 gp 0 _ _ _ _ _ _=_ from rfl]at hD;unfold Ey at hD;rw[<-hD.o])
 clear q0 q1 q2 q3 q4 q5 f0 f1 f2 f3 f4 f5;obtain⟨q0,q1,q2,q3,q4,q5,z0,z1,z2,z3,z4,z5⟩:=Je rb;have RBX:=Hd rb;clear rb;go_wp2_with fail;obtain⟨r0,r1,r2,r3,r4,r5⟩:=D4 (Cd RBX.o (.int .i64 21) (.string ⟨#[]⟩) (.int .i64 0) (.slice (some ⟨gp,0,none⟩) 4 c5) (.slice none 0 0) (.slice none 0 0));clear q0 q1 q2 q3 q4 q5 z0 z1 z2 z3 z4 z5;refine bodyPost_ret (v:=.agg #[.int .i64 21,.string ⟨#[]⟩,.int .i64 0,.slice (some ⟨gp,0,none⟩) 4 c5,.slice none 0 0,.slice none 0 0]) (by simp[results,Tryz.results116,go_sem,r0,r1,r2,r3,r4,r5]) rfl ?_;clear r0 r1 r2 r3 r4 r5;have hL:=Cr w3 g (.int .i64 21) (.string ⟨#[]⟩) (.int .i64 0) (.slice (some ⟨gp,0,none⟩) 4 c5) (.slice none 0 0) (.slice none 0 0);have h1:=HG.o;have h2:=HS1.o;have h3:=hT.o;refine⟨[.int .i64 21,.string ⟨#[]⟩,.int .i64 0,.slice (some ⟨gp,0,none⟩) 4 c5,.slice none 0 0,.slice none 0 0],rfl,?_,?_⟩
 ·refine Aw.of (k:=21) (t:=Bv) (n:=0) (fs:=[]) (vs:=[]) (A':=none) (c':=0) (A'':=none) (c'':=0) (by decide) (HL.o.but hL fun x hx=>⟨fun e=>?_,?_⟩) ⟨0,0,⟨Nat.le_refl _,Nat.zero_le _,fun _=>rfl,fun h=>absurd h (by simp)⟩,fun i hi=>absurd hi (by simp)⟩ ⟨0,0,⟨Nat.le_refl _,Nat.zero_le _,fun _=>rfl,fun h=>absurd h (by simp)⟩,fun i hi=>absurd hi (by simp)⟩
  ·have e:x=g:=e;rcases hx with hx|hx
   ·have:=HK.o x hx;omega
   ·omega
  ·rcases hx with hx|hx
   ·exact .inl hx
   ·exact .inr (by omega)
 ·exact (((Ad.of_below (O:=fun _=>False) hS.o).trans hI.o fun x h=>.inl h).trans hL fun x hx=>.inr (by have e:x=g:=hx;omega)).below (Nat.le_refl _) fun x h=>h.elim
theorem Xz {p0 p1 p2 p3:Ty}{a:Nat}(hf:∀p∈[p0,p1,p2,p3],Aj p=true/\Dk p=true) (h:a+Au [p0,p1,p2,p3]<=4096):Aj (Fl [p0,p1,p2,p3])=true/\Dk (Fl [p0,p1,p2,p3])=true/\Am (Fl [p0,p1,p2,p3])<=5000:=by
 have h1:=hf p1 (by simp);have h2:=hf p2 (by simp);have h3:=hf p3 (by simp);have h0:Aj (Hi 1)=true:=Rg (by decide) (by decide);unfold Fl;refine⟨?_,?_,?_⟩
 ·rw[Ay,show Ak 21=⟨true,true,false,false,4,4,true⟩ from rfl];unfold Ao Bs;simp[Mh,h0,h1.1,h2.1,h3.1]
 ·rw[Hy];simp[Jdz,h1.2,h2.2,h3.2]
 ·rw[Bu];have e:Am (Hi 1)=1:=Qq 1;have e1:Bm []=0:=rfl;have e2:Bl []=0:=rfl;rw[e1,e2];simp only[List.drop_succ_cons,List.drop_zero,Cl,G2]at h ⊢;omega
theorem Mn {N M:List Z8}{x:Z8}(h:∀y,y∈M↔y∈N):Dc M x=Dc N x:=by
 rw[Bool.eq_iff_iff,Dh,Dh];exact h x
theorem N9 {act:Bool}{N M:List Z8}{x:Z8}{t:Ty}(h:∀y,y∈N↔y∈M):Ff act N x t=Ff act M x t:=by
 unfold Ff;rw[Mn h];have e:N.isEmpty=M.isEmpty:=by
  rw[Bool.eq_iff_iff,List.isEmpty_iff,List.isEmpty_iff]
  constructor
  ·rintro rfl;exact List.eq_nil_iff_forall_not_mem.2 fun y hy=>by have:=(h y).2 hy;cases this
  ·rintro rfl;exact List.eq_nil_iff_forall_not_mem.2 fun y hy=>by have:=(h y).1 hy;cases this
 rw[e]
structure LoV (P Z' K:Nat->Prop) (u:Ty) (wk sb nd g2 gp:Nat) (X:Array Value) (w7 wr:World) (a:Nat) (S:Bt):Prop where
 cnt:wr.heap[wk]?=some (.cells #[.int .i64 (a:Int)] 85 (0,0))
 o:wr.heap[g2]?=some (.cells X 26 (0,0))
 row:P8 P wr gp S
 sta:Ce K Z' wr sb u nd
 but:Ad (fun x=>x=sb\/x=wk\/x=gp) w7 wr
theorem S9 {Cc:Prop}{n0:Z8}{u:Ty}{K Z:Nat->Prop}{wk sb nd:Nat}{w:World}{bp op a g2:Nat}{m:Option Nat}{n:Int}{s:Z8}{ps:List Ty}{vs:Bt}{A B C:Option Addr}{c d e:Nat}
  (dA:∀wx,Ad (fun x=>x=sb\/x=wk\/x=g2) w wx->wx.cell? ⟨bp,op+3,none⟩=some (.slice A ps.length c)/\wx.cell? ⟨bp,op+5,none⟩=some (.slice C vs.length e)) (hP:Bk K w ps A c) (hV:Da K w vs C e) (hK:∀x,K x->x<w.heap.size/\x≠sb/\x≠wk/\x≠g2) (hE:∀wx,Ad (fun x=>x=sb\/x=wk\/x=g2) w wx->Cp wk sb n0 wx m true) (hS:Ce K Z w sb u nd) (bV:Z sb) (bW:Z wk) (bU:Z g2) (kX:∀x,Z x->x<w.heap.size) (eG:w.heap[wk]?=some (.cells #[.int .i64 (a:Int)] 85 (0,0))) (eH:wk≠sb) (dK:g2≠sb/\g2≠wk) (aM:w.heap[g2]?=some (.cells #[.int .i64 13,.string s,.int .i64 n,.slice A ps.length c,.slice B 0 d,.slice C vs.length e] 26 (0,0))) (dH:a+(Au ps+Bl vs)<=4096) (cD:∀p∈ps,Aj p=true/\Dk p=true) (ihp:∀p∈ps,Jg Cc n0 u p) (eE:0<vs.length) (kI:vs.length<=3518437208780) (kL:∀v∈vs,∀b∈v.2,Aj b=true/\Dk b=true) (ihv:∀v∈vs,∀b∈v.2,Jg Cc n0 u b) (dJ:Aj u=true/\Dk u=true/\Am u<=5000) (aA:Bp n0 (E3 ps vs)=true->Dc (vs.map (·.1)) n0=false->∀x∈vs.map (·.1),Bp x u=false) (dV:(Bp n0 (E3 ps vs) && !Dc (vs.map (·.1)) n0)=true->(nd=1/\Am u=1/\Cc)) :
  Calls Tryz.prog 82 #[.pointer (some ⟨wk,0,none⟩),.pointer (some ⟨bp,op,none⟩),.pointer (some ⟨g2,0,none⟩),.map m] w (fun r w'=>r=.returned (.tuple #[])/\∃A' c' C' e',w'.heap[g2]?=some (.cells #[.int .i64 13,.string s,.int .i64 n,(.slice A' ps.length c'),.slice B 0 d,(.slice C' vs.length e')] 26 (0,0))/\Bk (fun x=>K x\/w.heap.size<=x) w' (ps.map (fun p=>if (Bp n0 (E3 ps vs) && !Dc (vs.map (·.1)) n0)=true then Bh n0 u p else p)) A' c'/\Da (fun x=>K x\/w.heap.size<=x) w' (vs.map (fun v:Z8×List Ty=>(v.1,v.2.map (fun p=>if (Bp n0 (E3 ps vs) && !Dc (vs.map (·.1)) n0)=true then Bh n0 u p else p)))) C' e'/\w'.heap[wk]?=some (.cells #[.int .i64 ((a+(Au ps+Bl vs):Nat):Int)] 85 (0,0))/\Ce K Z w' sb u nd/\Ad (fun x=>x=sb\/x=wk\/x=g2) w w'):=by
 obtain⟨act,kE⟩:∃act,act=(Bp n0 (E3 ps vs) && !Dc (vs.map (·.1)) n0):=⟨_,rfl⟩;rw[<-kE];obtain⟨PO,bS⟩:∃PO:Ending->World->Prop,PO=fun r w'=>r=.returned (.tuple #[])/\∃A' c' C' e',w'.heap[g2]?=some (.cells #[.int .i64 13,.string s,.int .i64 n,(.slice A' ps.length c'),.slice B 0 d,(.slice C' vs.length e')] 26 (0,0))/\Bk (fun x=>K x\/w.heap.size<=x) w' (ps.map (fun p=>if act=true then Bh n0 u p else p)) A' c'/\Da (fun x=>K x\/w.heap.size<=x) w' (vs.map (fun v:Z8×List Ty=>(v.1,v.2.map (fun p=>if act=true then Bh n0 u p else p)))) C' e'/\w'.heap[wk]?=some (.cells #[.int .i64 ((a+(Au ps+Bl vs):Nat):Int)] 85 (0,0))/\Ce K Z w' sb u nd/\Ad (fun x=>x=sb\/x=wk\/x=g2) w w':=⟨_,rfl⟩;rw[<-bS];have fB:Z9 (∀w',(∃A1 c1 C1 e1,w'.heap[g2]?=some (.cells #[.int .i64 13,.string s,.int .i64 n,.slice A1 ps.length c1,.slice B 0 d,.slice C1 vs.length e1] 26 (0,0))/\Bk (fun x=>K x\/w.heap.size<=x) w' (ps.map (fun p=>if act=true then Bh n0 u p else p)) A1 c1/\Da (fun x=>K x\/w.heap.size<=x) w' (vs.map (fun v:Z8×List Ty=>(v.1,v.2.map (fun p=>if act=true then Bh n0 u p else p)))) C1 e1/\w'.heap[wk]?=some (.cells #[.int .i64 ((a+(Au ps+Bl vs):Nat):Int)] 85 (0,0))/\Ce K Z w' sb u nd/\Ad (fun x=>x=sb\/x=wk\/x=g2) w w')->PO (.returned (.tuple #[])) w'):=Hd fun w' h=>by rw[bS];exact⟨rfl,h⟩
 clear bS;have dM:g2<w.heap.size:=kX g2 bU;have bB:wk<w.heap.size:=kX wk bW;have eD:sb<w.heap.size:=kX sb bV;have hH:Z9 (g2<w.heap.size/\wk<w.heap.size/\sb<w.heap.size):=Hd ⟨dM,bB,eD⟩;have HX:=Hd dA;have HP:Z9 (∀wx,Ad (fun x=>x=sb\/x=wk\/x=g2) w wx->Bk K wx ps A c):=Hd fun wx hx=>hP.but hx fun x hk=>⟨fun h=>by have:=hK x hk;rcases h with h|h|h;exact this.2.1 h;exact this.2.2.1 h;exact this.2.2.2 h,hk⟩;have aT:Z9 (∀wx,Ad (fun x=>x=sb\/x=wk\/x=g2) w wx->Da K wx vs C e):=Hd fun wx hx=>hV.but hx fun x hk=>⟨fun h=>by have:=hK x hk;rcases h with h|h|h;exact this.2.1 h;exact this.2.2.1 h;exact this.2.2.2 h,hk⟩;have hC:=Hd hK;have HE:=Hd hE;have bI:=Hd hS;have HZ:Z9 (Z sb/\Z wk/\Z g2/\∀x,Z x->x<w.heap.size):=Hd ⟨bV,bW,bU,kX⟩;have eM:=Hd eG;have bN:=Hd eH;have hF:=Hd dK;have eY:=Hd aM;have kQ:=Hd dH;have eP:=Hd cD;have eS:=Hd ihp;have aG:=Ti ps;have fA:Z9 (ps.length<=4096):=Hd (by omega);have KC:=Hd (Nw hP (by omega));have kN:=Hd kE;have aS:=Hd eE;have kU:=Hd kI;have eR:=Hd kL;have eT:=Hd ihv;have eQ:=Hd dJ;have bD:=Hd aA;have eX:=Hd dV;have cP:=Hd (Wo cD kL);clear dA hP hV hK hE hS bV bW bU kX eG eH dK aM dH cD ihp dM bB eD aG kE eE kI kL ihv dJ aA dV;go_enter Tryz.func82,Tryz.ntmps82;obtain⟨x3,x5⟩:=HX.o w (Ad.refl _ _);go_wp2_with fail;refine KC.o.mono ?_;rintro r w2 ⟨A5,c5,rfl,ho,kK⟩;have cM:=Hd kK;have eZ:=Hd ho;clear ho kK KC x3 x5;obtain⟨x3,x5⟩:=HX.o w2 (Ad.of_below cM.o);go_wp2_with fail
 go_loopw [8,9,24] (fun vn vp v wr=>∃i:Nat,i<=vs.length/\v=.int .i64 i/\Ua w.heap.size wr vn ((vs.take i).map (·.1))/\Cs K w wr vp (ps++((vs.take i).map (·.2)).flatten)/\Below w.heap.size w wr) (fun _ _ v _=>vs.length - (intOf v).toNat)
 case atStart=>exact⟨0,Nat.zero_le _,rfl,World.ownsRow_nil _ _ _ _,by simpa using eZ.o,cM.o⟩
 case round=>
  obtain⟨i,hi,rfl,hn,ho,hb⟩:=hrel;have HN:=Hd hn;have HO:=Hd ho;have HB:=Hd hb;have kI:=kU.o;by_cases hB:i<vs.length
  ·have t1:decide ((i:Int)<(vs.length:Int))=true:=by simp;omega
   have aO:wrap64 ((i:Int)+1)=((i+1:Nat):Int):=Ba (by omega);have HM:=Hd (Bg hB);have kC:Z9 (i+1<=vs.length):=Hd hB;obtain⟨vb,vo,hA,-,hT⟩:=(aT.o wr (Ad.of_below hb)).at (Nat.lt_of_le_of_lt (Nat.zero_le i) hB);subst hA;obtain⟨B1,d1,c0,c1,kM,kH⟩:=hT i hB;have kZ:(ps++((vs.take i).map (·.2)).flatten).length+(vs[i]'hB).2.length<=1099511627776:=by
    have h1:=kQ.o;have h2:=Iq (List.getElem_mem hB);have h3:=Ti (vs[i]'hB).2;have h4:=fA.o;have h5:((vs.take i).map (·.2)).flatten.length<=Bl vs:=by
     have h6:∀l:Bt,(l.map (·.2)).flatten.length<=Bl l:=by
      intro l
      induction l with
      | nil=>simp
      | cons a l ih=>
       have h7:=Ti a.2;simp only[List.map_cons,List.flatten_cons,List.length_append];show a.2.length+_<=Au a.2+Bl l;omega
     have h8:=h6 (vs.take i);have h9:Bl (vs.take i)<=Bl vs:=by
      unfold Bl;rw[List.map_take];exact O4 _ _
     omega
    rw[List.length_append];omega
   have hU:=Hd kZ;have aQ:Z9 ((vs.take (i+1)).map (·.1)=(vs.take i).map (·.1)++[(vs[i]'hB).1]):=Hd (by rw[List.take_succ_eq_append_getElem hB,List.map_append];rfl);have aR:Z9 (ps++((vs.take (i+1)).map (·.2)).flatten=ps++((vs.take i).map (·.2)).flatten++(vs[i]'hB).2):=Hd (by rw[List.take_succ_eq_append_getElem hB,List.map_append,List.flatten_append];simp);have dW:((vs.take i).map (·.1)).length=i:=by rw[List.length_map,List.length_take];omega
   have cS:=Hd dW;have fM:=(aT.o w (Ad.refl _ _)).at (Nat.lt_of_le_of_lt (Nat.zero_le i) hB);obtain⟨vb',vo',hA',-,hvat'⟩:=fM;obtain⟨B1',d1',e0,e1,-,hW⟩:=hvat' i hB;injection hA' with hA'
   injection hA' with h1 h2 _
   subst h1;subst h2;have aX:=Aa hb e1;rw[c1]at aX;injection aX with aX
   injection aX with h3 _ h4
   subst h3;subst h4;have bF:=Hd hW;generalize (vs.take i).map (·.1)=N0 at HN aQ cS hn;generalize ps++((vs.take i).map (·.2)).flatten=T0 at HO aR hU ho kZ;have fQ:Z9 (wr.heap.size<wr.heap.size+1):=Hd (Nat.lt_succ_self _);generalize vs[i]'hB=vi at c0 c1 kM kH hW bF aQ aR hU kZ e0 e1;obtain⟨nm,bd⟩:=vi;dsimp only at c0 c1 kM kH hW bF aQ aR hU kZ e0 e1;obtain⟨W1,kW⟩:∃x,x=wr.alloc (.cells #[.string nm,.slice B1 bd.length d1] 62):=⟨_,rfl⟩;have bX:Below wr.heap.size wr W1:=by rw[kW];exact (Below.refl _ _).alloc (Nat.le_refl _) _
   have aL:W1.heap[wr.heap.size]?=some (.cells #[.string nm,.slice B1 bd.length d1] 62 (0,0)):=by rw[kW];exact heap_alloc_new wr _
   have dZ:W1.heap.size=wr.heap.size+1:=by rw[kW];simp
   obtain⟨W2,aV⟩:∃x,x=W1.alloc (.cells #[.string nm] 9):=⟨_,rfl⟩;have kK:Below W1.heap.size W1 W2:=by rw[aV];exact (Below.refl _ _).alloc (Nat.le_refl _) _
   have aM:W2.heap[W1.heap.size]?=some (.cells #[.string nm] 9 (0,0)):=by rw[aV];exact heap_alloc_new W1 _
   have kV:=Hd (Bj kK (Array.getElem?_eq_some_iff.1 aL).1 aL);have bO:=Hd aM;have HS1:=Hd dZ;have HW1:=Hd kW;have fG:=Hd aV;have hI:Z9 (Below wr.heap.size wr W2):=Hd (bX.trans (kK.mono bX.size));have y0:=Ch aL 0;have y1:=Ch aL 1;simp only[List.getElem?_toArray,List.getElem?_cons_zero,List.getElem?_cons_succ]at y0 y1;have i1:(0:Int)<=(i:Int):=by omega
   have i2:(i:Int)<(vs.length:Int):=by omega
   clear hi hn ho hb kI hT hvat' kH hW kZ dW e0 e1 kM kW bX aL dZ aV kK aM;go_upto_region 5 with fail
   rw[<-HW1.o];clear c0 c1;go_wp2_with (at_builtin;refine wpList_plain rfl fun Kx hK=>?_;rw[<-fG.o];go_loud (refine P3 (B:=w.heap.size) (l:=N0) (s:=nm) (gg:=W1.heap.size) _ _ rfl (by rfl) (by rfl) (HN.o.keep fun b hb=>hI.o.block b (HN.o.lt hb).2) (by rw[Ch bO.o];rfl) (Nat.le_trans HB.o.size hI.o.size) (by rw[cS.o];have h1:=kU.o;have h2:=kC.o;omega) ?_));intro v3 W3 dT aY;refine hK _ _ ?_;clear hK Kx y0 y1;have aD:=fun b (e:u8.ownBlock=some b)=>(HN.o.lt e).2;have dX:Cs K w W3 u9 T0:=HO.o.keep fun b hb=>by
    obtain⟨vs',h1,-⟩:=HO.o;obtain⟨c9,h9⟩:=Kf h1 hb;have dQ:=(Array.getElem?_eq_some_iff.1 h9).1;exact (aY.block b (Nat.lt_of_lt_of_le dQ hI.o.size) fun e=>U1 HN.o HO.o e.symm hb).trans (hI.o.block b dQ)
   have eI:W3.heap[wr.heap.size]?=some (.cells #[.string nm,.slice B1 bd.length d1] 62 (0,0)):=(aY.block wr.heap.size (Array.getElem?_eq_some_iff.1 kV.o).1 fun e=>by have:=aD _ e.symm;omega).trans kV.o;have dB:Below w.heap.size w W3:=(HB.o.trans (hI.o.mono HB.o.size)).grown aY (Nat.le_trans HB.o.size hI.o.size) fun k hk=>(HN.o.lt hk).1;have y1:=Ch eI 1;simp only[List.getElem?_toArray,List.getElem?_cons_zero,List.getElem?_cons_succ]at y1;have cU:=Hd dX;have cQ:=Hd dT;have eK:=Hd dB;clear aD dX eI dB aY dT;go_wp2_with (at_builtin;refine wpList_plain rfl fun Kx hK=>?_;go_loud (refine Ni (w0:=w) (ts:=T0) (l:=bd) _ _ rfl (by rfl) (by rfl) cU.o bF.o eK.o hU.o ?_));intro v4 W4 dY dC dL;refine hK _ _ ?_;clear hK Kx y1;have dU:Ua w.heap.size W4 v3 (N0++[nm]):=World.ownsRow.kept cQ.o dL (by
    cases e:v3.ownBlock with
    | none=>exact .inl rfl
    | some b=>exact .inr fun e2=>U1 cQ.o cU.o e e2.symm)
   have kB:Z9 (Ua w.heap.size W4 v3 ((vs.take (i+1)).map (·.1))/\Cs K w W4 v4 (ps++((vs.take (i+1)).map (·.2)).flatten)/\Below w.heap.size w W4):=Hd ⟨by rw[aQ.o];exact dU,by rw[aR.o];exact dY,dC⟩;clear dY dC dL dU;go_wp2_with fail;refine⟨⟨i+1,kC.o,by first|rfl|rw[aO],kB.o⟩,?_⟩;first|exact HM.o|(rw[aO];exact HM.o)
  ·have t1:decide ((i:Int)<(vs.length:Int))=false:=by simp;omega
   obtain rfl:i=vs.length:=by omega
   rw[List.take_length]at hn ho;obtain⟨wl,bB⟩:∃x:World,x=wr:=⟨_,rfl⟩;subst bB;have cI:(ps++(vs.map (·.2)).flatten).length<=1000000000000000:=by
    have h1:=Ti (ps++(vs.map (·.2)).flatten);have h2:=Qp ps vs;unfold E3 at h2;rw[Bu]at h2;have h3:=kQ.o;have h4:Bm []+Bl []=0:=(by unfold Bm Bl;simp);omega
   obtain⟨TL,bT⟩:∃TL,TL=ps++(vs.map (·.2)).flatten:=⟨_,rfl⟩;rw[<-bT]at ho cI;obtain⟨AN,cN,eF,cE,cF⟩:=hn.list (by rw[List.length_map];omega);obtain⟨AT,cT,fO,dR⟩:=ho.list (fun b h=>(hC.o b h).1) hb cI;rw[List.length_map]at eF;subst eF;subst fO;have aI:Aw (fun b=>(K b\/w.heap.size<=b)/\b<wl.heap.size) wl (.mk 12 Bv 0 TL [] []) (Az 12 Bv 0 AT TL.length cT none 0 0 none 0 0):=Aw.of (fs:=[]) (vs:=[]) (by decide) dR.both ⟨0,0,⟨Nat.le_refl _,Nat.zero_le _,fun _=>rfl,fun h=>absurd h (by simp)⟩,fun i hi=>absurd hi (by simp)⟩ ⟨0,0,⟨Nat.le_refl _,Nat.zero_le _,fun _=>rfl,fun h=>absurd h (by simp)⟩,fun i hi=>absurd hi (by simp)⟩;have cJ:Aw (fun b=>(K b\/w.heap.size<=b)/\b<wl.heap.size) wl (E3 ps vs) (Az 12 Bv 0 AT TL.length cT none 0 0 none 0 0):=by unfold E3;rw[<-bT];exact aI
   have fK:=Qp ps vs;have bZ:Ad (fun x=>x=sb\/x=wk\/x=g2) w wl:=Ad.of_below hb;have aU:=Jp (K:=K) (c:=cN) cE (fun b o e=>by have h1:=(cF b o e).1;have h2:=hH.o;omega) (by rw[List.length_map];exact aS.o) cJ (fun x hx=>hx.2) (fun x hx=>⟨Nat.lt_of_lt_of_le (hC.o x hx).1 hb.size,(hC.o x hx).2.1,(hC.o x hx).2.2.1⟩) (HE.o wl bZ) (bI.o.but (Ad.of_below (O:=fun _=>False) hb) (fun h=>h) (fun x h=>h.elim) fun _ _ h=>h) HZ.o.1 (fun x h=>Nat.lt_of_lt_of_le (HZ.o.2.2.2 x h) hb.size) (Nat.lt_of_lt_of_le hH.o.2.1 hb.size) ⟨cP.o.1,cP.o.2,by have h1:=kQ.o;omega⟩ eQ.o (fun x hx=>Nat.le_trans (Lt _ _ cJ x (Rl x _ hx)) (by decide)) bD.o;rw[<-kN.o,List.length_map]at aU;simp only[Az]at aU;have KE:=Hd aU;have hU:=Hd hb;have eU:=Hd cE;have eW:=Hd cF;obtain⟨x3',x5'⟩:=HX.o wl bZ;clear hi hn ho hb kI hB cE cF dR cJ aI fK bZ aU cI bT;go_wp2_with fail;refine KE.o.mono ?_;rintro r w5 ⟨m',rfl,cX,cZ,bY,dS⟩;have kF:Ad (fun x=>x=sb\/x=wk\/x=g2) w w5:=(Ad.of_below (O:=(fun x=>x=sb\/x=wk\/x=g2)) hU.o).trans bY fun x h=>.inl (.inl h);have KV:=Hd (So (aT.o w5 kF) aS.o kU.o);have eO:=Hd cX;have bH:=Hd cZ;have kO:=Hd bY;have kA:=Hd kF;have eV:=Hd dS;clear cX cZ bY kF dS KE x3 x5 x3' x5';obtain⟨x3,x5⟩:=HX.o w5 kA.o;go_wp2_with fail;refine KV.o.mono ?_;rintro r w6 ⟨gp,c6,rfl,fL,dG,aG,kG⟩;have cK:=Bj kG (Nat.lt_of_lt_of_le hH.o.1 kA.o.size) (kO.o.up (fun e=>hF.o.1 e) (Bj hU.o hH.o.1 eY.o));obtain⟨w7,aZ⟩:∃x,x=w6.setCell ⟨g2,5,none⟩ (.slice (some ⟨gp,0,none⟩) vs.length c6):=⟨_,rfl⟩;have hR:Ad (fun x=>x=g2) w6 w7:=by rw[aZ];exact (Ad.refl (fun x=>x=g2) w6).put1 5 _
   have hQ:Ad (fun x=>x=g2) w5 w7:=(Ad.of_below (O:=fun x=>x=g2) kG).trans hR fun x h=>.inl h;have kY:Ad (fun x=>x=sb\/x=wk\/x=g2) w w7:=kA.o.trans hQ fun x h=>.inl (.inr (.inr h));have aN:w7.heap[g2]?=some (.cells #[.int .i64 13,.string s,.int .i64 n,.slice A ps.length c,.slice B 0 d,.slice (some ⟨gp,0,none⟩) vs.length c6] 26 (0,0)):=by rw[aZ];exact Cw cK 5 _
   have dE:w7.heap[wk]?=some (.cells #[.int .i64 (a:Int)] 85 (0,0)):=hQ.up (fun e=>hF.o.2 e.symm) (kO.o.up (fun e=>bN.o e) (Bj hU.o hH.o.2.1 eM.o));have hJ:Z9 (wl.heap.size<=gp/\w.heap.size<=wl.heap.size/\gp<w7.heap.size/\w.heap.size<=w7.heap.size/\w5.heap.size<=gp):=Hd (by have h1:=kO.o.size;have h2:=hU.o.size;have h3:=aG.lt;have h4:=hR.size;omega);obtain⟨P,hP⟩:∃P:Nat->Prop,P=fun x=>(K x\/w7.heap.size<=x)/\x≠sb/\x≠wk/\x≠gp:=⟨_,rfl⟩;have hY:Z9 (∀x,P x↔(K x\/w7.heap.size<=x)/\x≠sb/\x≠wk/\x≠gp):=Hd fun x=>by rw[hP]
   obtain⟨Z',hZ'⟩:∃Z':Nat->Prop,Z'=fun x=>Z x\/x=gp:=⟨_,rfl⟩;have hO:Z9 (∀x,Z' x↔Z x\/x=gp):=Hd fun x=>by rw[hZ']
   have aH:P8 P w7 gp vs:=(aG.weak fun x hx=>(hY.o x).2 ⟨.inl hx,(hC.o x hx).2.1,(hC.o x hx).2.2.1,by have h1:=(hC.o x hx).1;have h2:=hJ.o;omega⟩).but hR (by have h1:=hJ.o;have h2:=hH.o;show ¬ gp=g2;omega) fun x hx e=>by
    have e:x=g2:=e;have h1:=((hY.o x).1 hx).1;have h2:=hJ.o;have h3:=hH.o;rcases h1 with h1|h1
    ·exact (hC.o x h1).2.2.2 e
    ·omega
   have eB:Ce K Z' w7 sb u nd:=((bH.o.more fun x h=>((hO.o x).1 h).imp id fun e=>by have:=hJ.o;omega).but (Ad.of_below (O:=fun _=>False) kG) (fun h=>h) (fun x h=>h.elim) fun _ _ h=>h).but hR (fun e=>hF.o.1 e.symm) (fun x h=>.inl ((hO.o x).2 (.inl (by rw[show x=g2 from h];exact HZ.o.2.2.1)))) fun x hx e=>(hC.o x hx).2.2.2 e;have cV:Z9 (∀wr,Ad (fun x=>x=sb\/x=wk\/x=gp) w7 wr->Ad (fun x=>x=sb\/x=wk\/x=g2) w wr):=Hd fun wr hx=>kY.trans hx fun x h=>by
    have h1:=hJ.o;rcases h with h|h|h
    ·exact .inl (.inl h)
    ·exact .inl (.inr (.inl h))
    ·exact .inr (by omega)
   have cO:Z9 (∀wr,Ad (fun x=>x=sb\/x=wk\/x=gp) w7 wr->Cp wk sb n0 wr m' act):=Hd fun wr hx=>eO.o.butM ((hQ.mono (O':=fun x=>x=g2\/x=sb\/x=wk\/x=gp) fun x h=>.inl h).trans hx fun x h=>.inl (.inr h)) fun x h=>by
    have h1:=hJ.o;have h2:=hH.o;rcases h with h|h|h|h
    ·exact .inr (.inr (.inr fun e=>by have:=eV.o x e;omega))
    ·exact .inr (.inl h)
    ·exact .inl h
    ·exact .inr (.inr (.inl (by omega)))
   have aP:Z9 (∀wr,Ad (fun x=>x=sb\/x=wk\/x=gp) w7 wr->Cg wr (vs.map (·.1)) AN):=Hd fun wr hx=>eU.o.butL (((kO.o.mono (O':=fun x=>x=g2\/x=sb\/x=wk\/x=gp) fun x h=>.inr (.inl h)).trans hQ fun x h=>.inl (.inl h)).trans hx fun x h=>.inl (.inr h)) fun b o e kH h=>by
    have h1:=hJ.o;have h2:=hH.o;have h3:=(eW.o b o e).1;have h4:=kO.o.size;rcases h with h|h|h|h <;> omega
   have kS:Z9 (LoV P Z' K u wk sb nd g2 gp #[.int .i64 13,.string s,.int .i64 n,.slice A ps.length c,.slice B 0 d,.slice (some ⟨gp,0,none⟩) vs.length c6] w7 w7 a vs):=Hd ⟨dE,aN,aH,eB,Ad.refl _ _⟩;have eN:=Hd dG;have fH:=Hd aZ;obtain⟨q0,q1,q2,q3,q4,q5,z0,z1,z2,z3,z4,z5⟩:=Je cK;clear fL dG aG kG cK aZ hR hQ kY aN dE hP hZ' aH eB KV x3 x5;go_upto_region 10 with fail
   rw[<-fH.o];clear q0 q1 q2 q3 q4 q5 z0 z1 z2 z3 z4 z5;obtain⟨-,-,-,-,-,b5⟩:=D4 kS.o.o;go_wp2_with fail;clear b5 t1;have cR:Z9 (act=true->(nd=1/\Am u=1/\Cc)):=Hd fun h=>eX.o (by rw[<-kN.o];exact h)
   go_loopw [59] (fun v wr=>∃(i:Nat) (S:Bt),i<=vs.length/\v=.int .i64 i/\LoV P Z' K u wk sb nd g2 gp #[.int .i64 13,.string s,.int .i64 n,.slice A ps.length c,.slice B 0 d,.slice (some ⟨gp,0,none⟩) vs.length c6] w7 wr (a+Bl (vs.take i)) S/\S.length=vs.length/\S.take i=(vs.take i).map (fun v:Z8×List Ty=>(v.1,v.2.map (fun p=>if act=true then Bh n0 u p else p)))/\S.drop i=vs.drop i) (fun v _=>vs.length - (intOf v).toNat)
   case atStart=>exact⟨0,vs,Nat.zero_le _,rfl,by simpa [Bl] using kS.o,rfl,rfl,rfl⟩
   case round=>
    obtain⟨i,S,hi,rfl,hD,hL,aK,cB⟩:=hrel;have kT:=Hd hD;have hN:=Hd hL;have fE:=Hd aK;have hX:=cV.o wr hD.but;by_cases hB:i<vs.length
    ·have kI:=kU.o;have t1:decide ((i:Int)<(vs.length:Int))=true:=(by simp;omega);have aO:wrap64 ((i:Int)+1)=((i+1:Nat):Int):=Ba (by omega);have HM:=Hd (Bg hB);have kC:Z9 (i+1<=vs.length):=Hd hB;obtain⟨vb,vo,hA,cY,hT⟩:=(aT.o wr hX).at (Nat.lt_of_le_of_lt (Nat.zero_le i) hB);subst hA;obtain⟨B1,d1,c0,c1,kM,kH⟩:=hT i hB;obtain⟨nb,no,cW,-,aE⟩:=aP.o wr hD.but;have bP:=cW (by rw[List.length_map];exact aS.o);subst bP;have cH:=aE i (by rw[List.length_map];exact hB);rw[List.getElem_map]at cH;have cG:nb<wr.heap.size:=World.block_lt_of_cell? _ _ cH;have dI:Bl (vs.take (i+1))=Bl (vs.take i)+Au (vs[i]'hB).2:=by
      rw[List.take_succ_eq_append_getElem hB];unfold Bl;rw[List.map_append,List.sum_append];simp
     have bE:=Hd dI;have bC:Z9 (a+Bl (vs.take i)+Au (vs[i]'hB).2<=4096):=Hd (by
      have h1:=kQ.o;have h2:Bl (vs.take (i+1))<=Bl vs:=(by unfold Bl;rw[List.map_take];exact O4 _ _);omega)
     have bK:Z9 ((vs.take (i+1)).map (fun v:Z8×List Ty=>(v.1,v.2.map (fun p=>if act=true then Bh n0 u p else p)))=(vs.take i).map (fun v:Z8×List Ty=>(v.1,v.2.map (fun p=>if act=true then Bh n0 u p else p)))++[(fun v:Z8×List Ty=>(v.1,v.2.map (fun p=>if act=true then Bh n0 u p else p))) (vs[i]'hB)]):=Hd (by rw[List.take_succ_eq_append_getElem hB,List.map_append];rfl);have fF:=Hd fun u=>Kr hB hL cB u;have kL:=eR.o (vs[i]'hB) (List.getElem_mem hB);have dN:=eT.o (vs[i]'hB) (List.getElem_mem hB);have cC:Ad (fun x=>x=sb\/x=wk\/x=g2) w wr.drew:=hX.then (Below.refl _ _).drew;have aB:Ad (fun x=>x=sb\/x=wk\/x=gp) w7 wr.drew:=hD.but.then (Below.refl _ _).drew;have KA:=Hd (Ln (w:=wr.drew) (act:=act) (m:=m') (kH.later (Below.refl _ _).drew) (fun x hx=>⟨Nat.lt_of_lt_of_le (hC.o x hx).1 cC.size,(hC.o x hx).2.1,(hC.o x hx).2.2.1⟩) (cO.o _ aB) (hD.sta.but (Ad.of_below (O:=fun _=>False) (Below.refl _ _).drew) (fun h=>h) (fun x h=>h.elim) fun _ _ h=>h) ((hO.o _).2 (.inl HZ.o.1)) ((hO.o _).2 (.inl HZ.o.2.1)) (fun x h=>by
      show x<wr.heap.size;have h1:=cC.size;have h2:wr.drew.heap.size=wr.heap.size:=rfl;have h3:=hD.row.lt;rcases (hO.o x).1 h with h|h
      ·have:=HZ.o.2.2.2 x h;omega
      ·omega) hD.cnt bN.o bC.o kL (fun p _ h=>.inl (cR.o h)) dN)
     have kR:Z9 (w.heap.size<=gp/\gp<wr.heap.size/\w7.heap.size<=wr.heap.size/\w.heap.size<=w7.heap.size):=Hd ⟨by have h1:=hJ.o;omega,hD.row.lt,hD.but.size,hJ.o.2.2.2.1⟩;have bG:=Hd hD.row;have kD:Z9 ((vs[i]'hB).1.size<=1000000000000000):=Hd kM;have HC:Z9 (∀wx,Ad (fun x=>x=sb\/x=wk\/x=gp) wr wx->wx.cell? ⟨g2,5,none⟩=some (.slice (some ⟨gp,0,none⟩) vs.length c6)/\wx.cell? ⟨nb,no+i,none⟩=some (.string (vs[i]'hB).1)/\wx.cell? ⟨bp,op+5,none⟩=some (.slice (some ⟨vb,vo,none⟩) vs.length e)/\wx.cell? ⟨vb,vo+i*2+1,none⟩=some (.slice B1 (vs[i]'hB).2.length d1)):=Hd fun wx hx=>by
      have aN:Ad (fun x=>x=sb\/x=wk\/x=gp) w7 wx:=kT.o.but.trans hx fun x h=>.inl h;have h1:=hx.up (by have h1:=kR.o;have h2:=hH.o;have h3:=hF.o;show ¬ (g2=sb\/g2=wk\/g2=gp);omega) kT.o.o;obtain⟨nb',no',bQ,-,aF⟩:=aP.o wx aN;have h2:=bQ (by rw[List.length_map];exact aS.o);injection h2 with h2
      injection h2 with h2 h3 _
      subst h2;subst h3;have h4:=aF i (by rw[List.length_map];exact hB);rw[List.getElem_map]at h4;refine⟨(D4 h1).2.2.2.2.2,h4,(HX.o wx (cV.o wx aN)).2,?_⟩;exact hx.cell (by have h1:=hC.o vb cY;have h2:=kR.o;show ¬ (vb=sb\/vb=wk\/vb=gp);omega) c1
     have i1:(0:Int)<=(i:Int):=(by omega);have i2:(i:Int)<(vs.length:Int):=(by omega);generalize vs[i]'hB=vi at bE bC bK KA kD HC;obtain⟨nm,bd⟩:=vi;dsimp only at bE bC bK KA kD HC;have aP:=kD;clear hi hD hL aK cB hX kI hT c0 c1 kM kH cW aE cH cG dI kL dN cC aB cY;go_upto_region 13 with fail
     refine wp_region_held_drew (S:=(fun w'=>w'.cell? ⟨g2,5,none⟩=some (.slice (some ⟨gp,0,none⟩) vs.length c6)/\w'.cell? ⟨nb,no+i,none⟩=some (.string nm)/\w'.cell? ⟨bp,op+5,none⟩=some (.slice (some ⟨vb,vo,none⟩) vs.length e)/\w'.cell? ⟨vb,vo+i*2+1,none⟩=some (.slice B1 bd.length d1))) (by kernel_rfl) (HC.o _ (Ad.of_below (Below.refl _ _).drew)) (fun hG=>?_);refine Ab.s [0,1,2,3,4,5,6,7,8,9,10,11,12,13,14,15,16,17,18] ?_
     iterate 19 (refine Ab.k (so rfl) hG ?_;try simp only[Act.put,Bd,Be,Bf])
     refine Ab.d ?_;refine wpAnyH_ready (rs:=[19]) (by kernel_rfl) (by simp) ?_;refine AllReadyH.cons (sd (some 81) rfl) (fun Kx hK=>?_) AllReadyH.nil;go_simp;refine KA.o.mono ?_;rintro r w6 ⟨A9,c9,rfl,dO,dD,eA,kG⟩;have kP:Z9 (Ad (fun x=>x=sb\/x=wk) wr w6):=Hd (Ad.from (Below.refl wr.heap.size wr).drew kG);have hM:=bG.o.but kP.o (by have h2:=kR.o;have h3:=hH.o;show ¬ (gp=sb\/gp=wk);omega) (fun x hx h=>by have h1:=(hY.o x).1 hx;exact h.elim h1.2.1 h1.2.2.1);have aC:Bk P w6 (bd.map fun p=>if act=true then Bh n0 u p else p) A9 c9:=dO.weak fun x hx=>by
      have h1:=kR.o;have h2:=hH.o;have h5:wr.drew.heap.size=wr.heap.size:=rfl;refine (hY.o x).2 ?_;rcases hx with hx|hx
      ·have h6:=hC.o x hx;exact⟨.inl hx,h6.2.1,h6.2.2.1,by omega⟩
      ·exact⟨.inr (by omega),by omega,by omega,by omega⟩
     have fJ:=Hd dD;have bH:=Hd eA;have aJ:=hM.setq (q:=bd.length) (fun x hx=>((hY.o x).1 hx).2.2.2) (by have h1:=hN.o;have h2:=kC.o;omega:i<S.length) aP.o (by rw[List.length_map]) aC;obtain⟨u0',q0⟩:=hM.cell (i*2) (by have h1:=hN.o;have h2:=kC.o;omega);obtain⟨u1',q1⟩:=hM.cell (i*2+1) (by have h1:=hN.o;have h2:=kC.o;omega);have y0:=hM.free (i*2);have y1:=hM.free (i*2+1);have bJ:Z9 (LoV P Z' K u wk sb nd g2 gp #[.int .i64 13,.string s,.int .i64 n,.slice A ps.length c,.slice B 0 d,.slice (some ⟨gp,0,none⟩) vs.length c6] w7 (Kg w6 gp (i*2) (.string nm) (.slice A9 bd.length c9)) (a+Bl (vs.take (i+1))) (S.set i (nm,bd.map fun p=>if act=true then Bh n0 u p else p))):=Hd (by
      have h1:=kR.o;have h2:=hH.o;have hp:Ad (fun x=>x=gp) w6 (Kg w6 gp (i*2) (.string nm) (.slice A9 bd.length c9)):=M2 (Ad.refl _ _) (.inl rfl);refine⟨?_,hp.up (by show ¬ g2=gp;omega) (kP.o.up (by show ¬ (g2=sb\/g2=wk);have:=hF.o;omega) kT.o.o),aJ,?_,(kT.o.but.trans kP.o fun x h=>.inl (h.imp id .inl)).trans hp fun x h=>.inl (.inr (.inr h))⟩
      ·rw[bE.o,<-Nat.add_assoc];exact hp.up (by show ¬ wk=gp;omega) fJ.o
      ·exact bH.o.but hp (by show ¬ sb=gp;omega) (fun x h=>.inl ((hO.o x).2 (.inr h))) fun x hx e=>by have h5:=(hC.o x hx).1;have e:x=gp:=e;omega)
     clear hM aJ dO aC dD eA kG KA;go_wp2_with fail;refine hK.out _ _ (HC.o _ (kP.o.mono fun x h=>h.imp id .inl)) (fun hG=>?_);clear hK Kx;try simp only[Act.put,Bd,Be,Bf]
     refine Ab.s [20,21] ?_
     iterate 2 (refine Ab.k (so rfl) hG ?_;try simp only[Act.put,Bd,Be,Bf])
     refine Ab.d ?_;refine wpAnyH_ready (rs:=[22]) (by kernel_rfl) (by simp) ?_;refine AllReadyH.cons (sd none rfl) (fun Kx hK=>?_) AllReadyH.nil;go_simp;refine hK.out _ _ (HC.o _ (M2 (kP.o.mono fun x h=>h.imp id .inl) (.inl (.inr (.inr rfl))))) (fun hG=>?_);clear hK Kx;try simp only[Act.put,Bd,Be,Bf]
     refine wpAnyH_done (by kernel_rfl) ?_ _;clear hG q0 q1 y0 y1;have bL:=Hd (fF.o (nm,bd.map fun p=>if act=true then Bh n0 u p else p));go_wp2_with fail
     go_roundw
     case rel=>
      refine⟨i+1,S.set i (nm,bd.map fun p=>if act=true then Bh n0 u p else p),kC.o,by first|rfl|rw[aO],bJ.o,bL.o.2.2.1,?_,bL.o.2.2.2.1⟩;rw[bL.o.2.2.2.2,fE.o,bK.o]
     case measure=>first|exact HM.o|(rw[aO];exact HM.o)
    ·have t1:decide ((i:Int)<(vs.length:Int))=false:=(by simp;omega);obtain rfl:i=vs.length:=by omega
     have hS:S=vs.map (fun v:Z8×List Ty=>(v.1,v.2.map (fun p=>if act=true then Bh n0 u p else p))):=(by rw[<-hL,List.take_length]at aK;rw[aK,hL,List.take_length]);have cA:=hD.cnt;rw[List.take_length]at cA;have fD:=Hd hS;have fC:=Hd hD.row;have eL:=Hd hD.but;have fN:=hX.size;have KA:=Hd (Ln (w:=wr) (act:=act) (m:=m') (HP.o wr hX) (fun x hx=>⟨Nat.lt_of_lt_of_le (hC.o x hx).1 hX.size,(hC.o x hx).2.1,(hC.o x hx).2.2.1⟩) (cO.o _ hD.but) hD.sta ((hO.o _).2 (.inl HZ.o.1)) ((hO.o _).2 (.inl HZ.o.2.1)) (fun x h=>by
      have h3:=hD.row.lt;rcases (hO.o x).1 h with h|h
      ·have:=HZ.o.2.2.2 x h;omega
      ·omega) cA bN.o (by have:=kQ.o;omega) eP.o (fun p _ h=>.inl (cR.o h)) eS.o)
     have bM:=Hd hX;obtain⟨wq,fP⟩:∃x:World,x=wr:=⟨_,rfl⟩;subst fP;obtain⟨x3,x5⟩:=HX.o wq hX;clear hi hB hD hL aK cB hS cA fN hX;go_wp2_with fail;refine KA.o.mono ?_;rintro r w8 ⟨A',c',rfl,dP,dF,eC,aW⟩;have cL:=aW.up (by show ¬ (g2=sb\/g2=wk);have:=hF.o;omega) kT.o.o;obtain⟨q0,q1,q2,q3,q4,q5,z0,z1,z2,z3,z4,z5⟩:=Je cL;obtain⟨w9,bA⟩:∃x,x=w8.setCell ⟨g2,3,none⟩ (.slice A' ps.length c'):=⟨_,rfl⟩;have kJ:Ad (fun x=>x=g2) w8 w9:=(by rw[bA];exact (Ad.refl (fun x=>x=g2) w8).put1 3 _);have eJ:w9.heap[g2]?=some (.cells #[.int .i64 13,.string s,.int .i64 n,(.slice A' ps.length c'),.slice B 0 d,.slice (some ⟨gp,0,none⟩) vs.length c6] 26 (0,0)):=(by rw[bA];exact Cw cL 3 _);have bR:∀x,K x\/w.heap.size<=x->¬ x=g2:=fun x hx e=>by
      have h1:=hH.o;rcases hx with hx|hx
      ·exact (hC.o x hx).2.2.2 e
      ·omega
     have hZ:=(fC.o.but aW (by have h2:=hJ.o;have h3:=hH.o;show ¬ (gp=sb\/gp=wk);omega) (fun x hx h=>by have h1:=(hY.o x).1 hx;exact h.elim h1.2.1 h1.2.2.1)).but kJ (by have h2:=hJ.o;have h3:=hH.o;show ¬ gp=g2;omega) (fun x hx e=>by
      have h1:=((hY.o x).1 hx).1;have h2:=hJ.o;refine bR x (h1.imp id fun h=>by omega) e)
     have kB:Z9 (∃A1 c1 C1 e1,w9.heap[g2]?=some (.cells #[.int .i64 13,.string s,.int .i64 n,.slice A1 ps.length c1,.slice B 0 d,.slice C1 vs.length e1] 26 (0,0))/\Bk (fun x=>K x\/w.heap.size<=x) w9 (ps.map (fun p=>if act=true then Bh n0 u p else p)) A1 c1/\Da (fun x=>K x\/w.heap.size<=x) w9 (vs.map (fun v:Z8×List Ty=>(v.1,v.2.map (fun p=>if act=true then Bh n0 u p else p)))) C1 e1/\w9.heap[wk]?=some (.cells #[.int .i64 ((a+(Au ps+Bl vs):Nat):Int)] 85 (0,0))/\Ce K Z w9 sb u nd/\Ad (fun x=>x=sb\/x=wk\/x=g2) w w9):=Hd (by
      refine⟨A',c',some ⟨gp,0,none⟩,c6,eJ,dP.but kJ fun x hx=>⟨bR x (hx.imp id fun h=>by have:=bM.o.size;omega),hx.imp id fun h=>by have:=bM.o.size;omega⟩,?_,?_,(eC.but kJ (fun e=>hF.o.1 e.symm) (fun x h=>.inl ((hO.o x).2 (.inl (by rw[show x=g2 from h];exact HZ.o.2.2.1)))) fun x hx e=>(hC.o x hx).2.2.2 e).more fun x h=>.inl ((hO.o x).2 (.inl h)),(bM.o.trans aW fun x h=>.inl (h.imp id .inl)).trans kJ fun x h=>.inl (.inr (.inr h))⟩
      ·have h1:=(hZ.list (by rw[hN.o];exact eN.o) (by rw[hN.o];have:=kU.o;omega)).but (K':=fun x=>K x\/w.heap.size<=x) (Ad.refl (fun _=>False) _) fun x hx=>⟨id,by
        have h2:=hJ.o;rcases hx with hx|hx
        ·exact ((hY.o x).1 hx).1.imp id fun h=>by omega
        ·exact .inr (by omega)⟩
       rw[fD.o]at h1;exact h1
      ·have h1:=kJ.up (fun e=>hF.o.2 e.symm) dF;rw[show a+Bl vs+Au ps=a+(Au ps+Bl vs) by omega]at h1;exact h1)
     have fI:=Hd bA;clear KA x3 x5 dP dF eC aW cL kJ eJ bR hZ bA;go_wp2_with fail;rw[<-fI.o];exact bodyPost_end (v:=.tuple #[]) (by simp[results,Tryz.results82,go_sem]) rfl (fB.o _ kB.o)
