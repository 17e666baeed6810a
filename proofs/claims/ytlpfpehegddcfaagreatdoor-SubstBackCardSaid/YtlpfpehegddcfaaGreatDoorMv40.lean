import Derived.Test.YtlpfpehegddcfaaGreatDoorMv37
namespace Go.Proofs.YtlpfpehegddcfaaGreatDoor
set_option maxRecDepth 100000
set_option maxHeartbeats 64000000
open Go.RowKit
theorem Jw {K Kt Z:Nat->Prop} {wk sb:Nat} {n0:ByteArray} {w:World} {m:Option Nat} {act:Bool} {N:List ByteArray} {A:Option Addr} {c:Nat} {cs:List Value} {t u:Ty} {nd:Nat}
  (hN:ListS w N A) (hAN:∀ b o,A=some ⟨b,o,none⟩->b≠sb) (hr:RepT Kt w t cs) (hKt:∀ x,Kt x->x<w.heap.size) (hK:∀ x,K x->x<w.heap.size/\x≠sb/\x≠wk) (hE:EnvP wk sb n0 w m act) (hS:StaS K Z w sb u nd) (hZ:Z sb) (hZl:∀ x,Z x->x<w.heap.size) (hwk:wk<w.heap.size)
  (hft:Ab t=true/\Da t=true/\Ai t<=5000) (hfu:Ab u=true/\Da u=true/\Ai u<=5000) (hcap:act=true->Bl n0 t=true->Cl N n0=false->∀ x∈N,Bl x u=false) :
  Calls Tryz.prog 83 #[.slice A N.length c,.agg cs.toArray,.map m] w (fun e w'=>∃ m',e=.returned (.tuple #[.slice A N.length c,.map m'])/\EnvP wk sb n0 w' m' (Ew act N n0 t)/\StaS K Z w' sb u nd/\ButG (fun x=>x=sb) w w'/\∀ b,m'=some b->m=some b\/w.heap.size<=b):=by
 cases act with
 | false=>
  obtain⟨k,s,n,ps,fs,vs⟩:=t;obtain⟨A1,c1,B1,d1,C1,e1,rfl,-⟩:=hr.inv;simp only[Ar];refine (Sh hE).mono ?_;rintro e w' ⟨rfl,hb⟩;exact⟨none,rfl,rfl,hS.but (ButG.of_below (O:=fun _=>False) hb) (fun h=>h) (fun x h=>h.elim) fun _ _ h=>h,ButG.of_below hb,fun b e=>by cases e⟩
 | true=>
  cases N with
  | nil=>
   obtain⟨k,s,n,ps,fs,vs⟩:=t;obtain⟨A1,c1,B1,d1,C1,e1,rfl,-⟩:=hr.inv;simp only[Ar,List.length_nil];refine (N4 hE).mono ?_;rintro e w' ⟨rfl,hb⟩;exact⟨m,rfl,hE.but (ButG.of_below (O:=fun _=>False) hb) fun x h=>h.elim,hS.but (ButG.of_below (O:=fun _=>False) hb) (fun h=>h) (fun x h=>h.elim) fun _ _ h=>h,ButG.of_below hb,fun b e=>.inl e⟩
  | cons x N=>
   refine (Jd hN hAN (Nat.succ_pos _) hr hKt hK hE hS hZ hZl hwk hft hfu (fun y hy=>Nat.le_trans (Lm t cs hr y (Oc y t hy)) (by decide)) (hcap rfl)).mono ?_;rintro e w' ⟨m',h1,h2,h3,h4,h5⟩;exact⟨m',h1,h2,h3,h4,fun b e=>.inr (h5 b e)⟩
theorem Om {P:Nat->Prop} {w:World} {g:Nat} {t0 t1 t2 t3:Ty} {c0 c1 c2 c3:List Value} (h0:RepT P w t0 c0) (h1:RepT P w t1 c1) (h2:RepT P w t2 c2) (h3:RepT P w t3 c3) (hx:w.heap[g]?=some (.cells (c0++(c1++(c2++c3))).toArray 26 (0,0))):ListT (fun x=>P x\/x=g) w [t0,t1,t2,t3] (some ⟨g,0,none⟩) 4:=
 ⟨g,0,⟨Nat.le_refl _,by show 4<=_;omega,(fun h=>by cases h),fun _=>⟨rfl,.inr rfl⟩⟩,fun i hi=>by
  have e0:=h0.six;have e1:=h1.six;have e2:=h2.six;have hc:∀ j u,(c0++(c1++(c2++c3)))[j]?=some u->w.cell? ⟨g,j,none⟩=some u:=fun j u hj=>by rw[Ch hx];simpa using hj
  match i,hi with
  | 0,_=>exact⟨c0,fun j u hj=>by have h9:=hc j u (by rw[List.getElem?_append_left (List.getElem?_eq_some_iff.1 hj).1];exact hj);simpa using h9,h0.weak fun x h=>.inl h⟩
  | 1,_=>exact⟨c1,fun j u hj=>by
    have hj1:=(List.getElem?_eq_some_iff.1 hj).1;have h9:=hc (1*6+j) u (by rw[List.getElem?_append_right (by omega),List.getElem?_append_left (by omega),show 1*6+j - c0.length=j by omega];exact hj);simpa using h9,h1.weak fun x h=>.inl h⟩
  | 2,_=>exact⟨c2,fun j u hj=>by
    have hj1:=(List.getElem?_eq_some_iff.1 hj).1;have h9:=hc (2*6+j) u (by rw[List.getElem?_append_right (by omega),List.getElem?_append_right (by omega),List.getElem?_append_left (by omega),show 2*6+j - c0.length - c1.length=j by omega];exact hj);simpa using h9,h2.weak fun x h=>.inl h⟩
  | 3,_=>exact⟨c3,fun j u hj=>by
    have hj1:=(List.getElem?_eq_some_iff.1 hj).1;have h9:=hc (3*6+j) u (by rw[List.getElem?_append_right (by omega),List.getElem?_append_right (by omega),List.getElem?_append_right (by omega),show 3*6+j - c0.length - c1.length - c2.length=j by omega];exact hj);simpa using h9,h3.weak fun x h=>.inl h⟩⟩
theorem L2 {K:Nat->Prop} {w:World} {bp op:Nat} {p0 p1 p2 p3:Ty} {A:Option Addr} {c:Nat} (hx:w.cell? ⟨bp,op+3,none⟩=some (.slice A 4 c)) (hP:ListT K w [p0,p1,p2,p3] A c) (hK:∀ x,K x->x<w.heap.size) :
  Calls Tryz.prog 116 #[.pointer (some ⟨bp,op,none⟩)] w fun e w'=>∃ rs,e=.returned (.agg rs.toArray)/\RepT (fun x=>K x\/w.heap.size<=x) w' (D6 [p0,p1,p2,p3]) rs/\Below w.heap.size w w':=by
 obtain⟨w1,hw1⟩:∃ x,x=w.alloc (.cells #[.int .i64 0,.string ⟨#[]⟩,.int .i64 0,.slice none 0 0,.slice none 0 0,.slice none 0 0] 26):=⟨_,rfl⟩;obtain⟨g,hg⟩:∃ g,g=w.heap.size:=⟨_,rfl⟩;have hb1:Below w.heap.size w w1:=by rw[hw1];exact (Below.refl _ _).alloc (Nat.le_refl _) _
 have hz:w1.heap[g]?=some (.cells #[.int .i64 0,.string ⟨#[]⟩,.int .i64 0,.slice none 0 0,.slice none 0 0,.slice none 0 0] 26 (0,0)):=by rw[hw1,hg];exact heap_alloc_new w _
 have hs1:w1.heap.size=g+1:=by rw[hw1,hg];simp
 have x3:=Aa hb1 hx;have KC0:=P8 (hP.later hb1) (by show 4<=_;omega);simp only[List.length_cons,List.length_nil] at KC0;have KC:=Hd KC0;have HW1:=Hd hw1;have HG:=Hd hg;have HB1:=Hd hb1;have HZ:=Hd hz;have HS1:=Hd hs1;have HK:=Hd hK;clear hx hP hK hw1 hg hb1 hz hs1 KC0;go_enter Tryz.func116,Tryz.ntmps116;go_upto_region 1 with fail
 rw[<-HW1.out,<-HG.out];go_wp2_with fail;refine KC.out.mono ?_;rintro e w2 ⟨A5,c5,rfl,hb2,hcl⟩;obtain⟨gp,rfl,hgp,hc5,hpl⟩:∃ gp,A5=some ⟨gp,0,none⟩/\w1.heap.size<=gp/\4<=c5/\PlT K w2 gp [p0,p1,p2,p3]:=by
  rcases hcl with ⟨h,-⟩ | ⟨gp,h1,h2,h3,h4⟩
  ·cases h
  ·exact⟨gp,h1,h2,h3,h4⟩
 obtain⟨⟨u0',q0⟩,⟨u1',q1⟩,⟨u2',q2⟩,⟨u3',q3⟩,⟨u4',q4⟩,⟨u5',q5⟩⟩:=hpl.six (i:=0) (Nat.succ_pos _);have f0:=hpl.free 0;have f1:=hpl.free 1;have f2:=hpl.free 2;have f3:=hpl.free 3;have f4:=hpl.free 4;have f5:=hpl.free 5;have hset:=hpl.set (i:=0) (t:=E7 1) (v0:=.int .i64 1) (v1:=.string ⟨#[]⟩) (v2:=.int .i64 0) (v3:=.slice none 0 0) (v4:=.slice none 0 0) (v5:=.slice none 0 0) (fun x hx e=>by have h1:=HK.out x hx;have h2:=HS1.out;have h3:=HG.out;omega) (Nat.succ_pos _) (Jas K w2 1);obtain⟨w3,hw3⟩:∃ x,x=Ei w2 gp (0*6) (.int .i64 1) (.string ⟨#[]⟩) (.int .i64 0) (.slice none 0 0) (.slice none 0 0) (.slice none 0 0):=⟨_,rfl⟩;have hb23:ButG (fun x=>x=gp) w2 w3:=by rw[hw3];exact E3 (ButG.refl _ _) (.inl rfl)
 rw[<-hw3] at hset;have hb13:ButG (fun _=>False) w1 w3:=(ButG.of_below (O:=fun _=>False) hb2).trans hb23 fun x h=>.inr (by have e:x=gp:=h;omega);have rb:=hb13.up (fun h=>h) HZ.out;have HL:=Hd (hset.list (c:=c5) hc5 (by show 4<=_;omega));have HB13:=Hd hb13;have HGP:=Hd hgp;have HW3:=Hd hw3;clear hcl hgp hc5 hpl hset hb23 hb13 hb2 hw3 KC x3;simp only[Nat.zero_mul,Nat.zero_add] at q0 q1 q2 q3 q4 q5 HW3;go_upto_region 3 with fail
 first | rw[<-HW3.out] | (rw[show Ei w2 gp 0 _ _ _ _ _ _=_ from rfl] at HW3;unfold Ei at HW3;rw[<-HW3.out])
 clear q0 q1 q2 q3 q4 q5 f0 f1 f2 f3 f4 f5;obtain⟨q0,q1,q2,q3,q4,q5,z0,z1,z2,z3,z4,z5⟩:=Jp rb;have RBX:=Hd rb;clear rb;go_wp2_with fail;obtain⟨r0,r1,r2,r3,r4,r5⟩:=Fs (B5 RBX.out (.int .i64 21) (.string ⟨#[]⟩) (.int .i64 0) (.slice (some ⟨gp,0,none⟩) 4 c5) (.slice none 0 0) (.slice none 0 0));clear q0 q1 q2 q3 q4 q5 z0 z1 z2 z3 z4 z5;refine bodyPost_ret (v:=.agg #[.int .i64 21,.string ⟨#[]⟩,.int .i64 0,.slice (some ⟨gp,0,none⟩) 4 c5,.slice none 0 0,.slice none 0 0]) (by simp[results,Tryz.results116,go_sem,r0,r1,r2,r3,r4,r5]) rfl ?_;clear r0 r1 r2 r3 r4 r5;have HSB:=Cu w3 g (.int .i64 21) (.string ⟨#[]⟩) (.int .i64 0) (.slice (some ⟨gp,0,none⟩) 4 c5) (.slice none 0 0) (.slice none 0 0);have h1:=HG.out;have h2:=HS1.out;have h3:=HGP.out;refine⟨[.int .i64 21,.string ⟨#[]⟩,.int .i64 0,.slice (some ⟨gp,0,none⟩) 4 c5,.slice none 0 0,.slice none 0 0],rfl,?_,?_⟩
 ·refine RepT.of (k:=21) (t:=Bk) (n:=0) (fs:=[]) (vs:=[]) (A':=none) (c':=0) (A'':=none) (c'':=0) (by decide) (HL.out.but HSB fun x hx=>⟨fun e=>?_,?_⟩) ⟨0,0,⟨Nat.le_refl _,Nat.zero_le _,fun _=>rfl,fun h=>absurd h (by simp)⟩,fun i hi=>absurd hi (by simp)⟩ ⟨0,0,⟨Nat.le_refl _,Nat.zero_le _,fun _=>rfl,fun h=>absurd h (by simp)⟩,fun i hi=>absurd hi (by simp)⟩
  ·have e:x=g:=e;rcases hx with hx | hx
   ·have:=HK.out x hx;omega
   ·omega
  ·rcases hx with hx | hx
   ·exact .inl hx
   ·exact .inr (by omega)
 ·exact (((ButG.of_below (O:=fun _=>False) HB1.out).trans HB13.out fun x h=>.inl h).trans HSB fun x hx=>.inr (by have e:x=g:=hx;omega)).below (Nat.le_refl _) fun x h=>h.elim
theorem Xv {p0 p1 p2 p3:Ty} {a:Nat} (hf:∀ p∈[p0,p1,p2,p3],Ab p=true/\Da p=true) (h:a+An [p0,p1,p2,p3]<=4096):Ab (D6 [p0,p1,p2,p3])=true/\Da (D6 [p0,p1,p2,p3])=true/\Ai (D6 [p0,p1,p2,p3])<=5000:=by
 have h1:=hf p1 (by simp);have h2:=hf p2 (by simp);have h3:=hf p3 (by simp);have h0:Ab (E7 1)=true:=Mf (by decide) (by decide);unfold D6;refine⟨?_,?_,?_⟩
 ·rw[Am,show Ae 21=⟨true,true,false,false,4,4,true⟩ from rfl];unfold Aj Bh;simp[Jv,h0,h1.1,h2.1,h3.1]
 ·rw[Fv];simp[Jbq,h1.2,h2.2,h3.2]
 ·rw[Br];have e:Ai (E7 1)=1:=Qi 1;have e1:Bd []=0:=rfl;have e2:Be []=0:=rfl;rw[e1,e2];simp only[List.drop_succ_cons,List.drop_zero,B6,Gp] at h ⊢;omega
theorem Ml {N M:List ByteArray} {x:ByteArray} (h:∀ y,y∈M↔y∈N):Cl M x=Cl N x:=by
 rw[Bool.eq_iff_iff,Cy,Cy];exact h x
theorem N3 {act:Bool} {N M:List ByteArray} {x:ByteArray} {t:Ty} (h:∀ y,y∈N↔y∈M):Ew act N x t=Ew act M x t:=by
 unfold Ew;rw[Ml h];have e:N.isEmpty=M.isEmpty:=by
  rw[Bool.eq_iff_iff,List.isEmpty_iff,List.isEmpty_iff]
  constructor
  ·rintro rfl;exact List.eq_nil_iff_forall_not_mem.2 fun y hy=>by have:=(h y).2 hy;cases this
  ·rintro rfl;exact List.eq_nil_iff_forall_not_mem.2 fun y hy=>by have:=(h y).1 hy;cases this
 rw[e]
structure LoV (P Z' K:Nat->Prop) (u:Ty) (wk sb nd g2 gp:Nat) (X:Array Value) (w7 wr:World) (a:Nat) (S:Bm):Prop where
 cnt:wr.heap[wk]?=some (.cells #[.int .i64 (a:Int)] 85 (0,0))
 out:wr.heap[g2]?=some (.cells X 26 (0,0))
 row:PlV P wr gp S
 sta:StaS K Z' wr sb u nd
 but:ButG (fun x=>x=sb\/x=wk\/x=gp) w7 wr
theorem Sw {n0:ByteArray} {u:Ty} {K Z:Nat->Prop} {wk sb nd:Nat} {w:World} {bp op a g2:Nat} {m:Option Nat} {n:Int} {s:ByteArray} {ps:List Ty} {vs:Bm} {A B C:Option Addr} {c d e:Nat}
  (hat:∀ wx,ButG (fun x=>x=sb\/x=wk\/x=g2) w wx->wx.cell? ⟨bp,op+3,none⟩=some (.slice A ps.length c)/\wx.cell? ⟨bp,op+5,none⟩=some (.slice C vs.length e)) (hP:ListT K w ps A c) (hV:ListV K w vs C e) (hK:∀ x,K x->x<w.heap.size/\x≠sb/\x≠wk/\x≠g2) (hE:∀ wx,ButG (fun x=>x=sb\/x=wk\/x=g2) w wx->EnvP wk sb n0 wx m true) (hS:StaS K Z w sb u nd) (hZs:Z sb) (hZw:Z wk) (hZg:Z g2) (hZl:∀ x,Z x->x<w.heap.size) (hwk:w.heap[wk]?=some (.cells #[.int .i64 (a:Int)] 85 (0,0))) (hws:wk≠sb) (hg2:g2≠sb/\g2≠wk) (hx2:w.heap[g2]?=some (.cells #[.int .i64 13,.string s,.int .i64 n,.slice A ps.length c,.slice B 0 d,.slice C vs.length e] 26 (0,0))) (hct:a+(An ps+Be vs)<=4096) (hfp:∀ p∈ps,Ab p=true/\Da p=true) (ihp:∀ p∈ps,Lw n0 u p) (hv0:0<vs.length) (hvl:vs.length<=3518437208780) (hfv:∀ v∈vs,∀ b∈v.2,Ab b=true/\Da b=true) (ihv:∀ v∈vs,∀ b∈v.2,Lw n0 u b) (hfu:Ab u=true/\Da u=true/\Ai u<=5000) (hcap:Bl n0 (D3 ps vs)=true->Cl (vs.map (·.1)) n0=false->∀ x∈vs.map (·.1),Bl x u=false) (hnd:(Bl n0 (D3 ps vs) && !Cl (vs.map (·.1)) n0)=true->(nd=1/\Ai u=1)) :
  Calls Tryz.prog 82 #[.pointer (some ⟨wk,0,none⟩),.pointer (some ⟨bp,op,none⟩),.pointer (some ⟨g2,0,none⟩),.map m] w (fun r w'=>r=.returned (.tuple #[])/\∃ A' c' C' e',w'.heap[g2]?=some (.cells #[.int .i64 13,.string s,.int .i64 n,(.slice A' ps.length c'),.slice B 0 d,(.slice C' vs.length e')] 26 (0,0))/\ListT (fun x=>K x\/w.heap.size<=x) w' (ps.map (fun p=>if (Bl n0 (D3 ps vs) && !Cl (vs.map (·.1)) n0)=true then Ak n0 u p else p)) A' c'/\ListV (fun x=>K x\/w.heap.size<=x) w' (vs.map (fun v:ByteArray×List Ty=>(v.1,v.2.map (fun p=>if (Bl n0 (D3 ps vs) && !Cl (vs.map (·.1)) n0)=true then Ak n0 u p else p)))) C' e'/\w'.heap[wk]?=some (.cells #[.int .i64 ((a+(An ps+Be vs):Nat):Int)] 85 (0,0))/\StaS K Z w' sb u nd/\ButG (fun x=>x=sb\/x=wk\/x=g2) w w'):=by
 obtain⟨act,hact⟩:∃ act,act=(Bl n0 (D3 ps vs) && !Cl (vs.map (·.1)) n0):=⟨_,rfl⟩;rw[<-hact];obtain⟨PO,hPO⟩:∃ PO:Ending->World->Prop,PO=fun r w'=>r=.returned (.tuple #[])/\∃ A' c' C' e',w'.heap[g2]?=some (.cells #[.int .i64 13,.string s,.int .i64 n,(.slice A' ps.length c'),.slice B 0 d,(.slice C' vs.length e')] 26 (0,0))/\ListT (fun x=>K x\/w.heap.size<=x) w' (ps.map (fun p=>if act=true then Ak n0 u p else p)) A' c'/\ListV (fun x=>K x\/w.heap.size<=x) w' (vs.map (fun v:ByteArray×List Ty=>(v.1,v.2.map (fun p=>if act=true then Ak n0 u p else p)))) C' e'/\w'.heap[wk]?=some (.cells #[.int .i64 ((a+(An ps+Be vs):Nat):Int)] 85 (0,0))/\StaS K Z w' sb u nd/\ButG (fun x=>x=sb\/x=wk\/x=g2) w w':=⟨_,rfl⟩;rw[<-hPO];have HPO:Hid (∀ w',(∃ A1 c1 C1 e1,w'.heap[g2]?=some (.cells #[.int .i64 13,.string s,.int .i64 n,.slice A1 ps.length c1,.slice B 0 d,.slice C1 vs.length e1] 26 (0,0))/\ListT (fun x=>K x\/w.heap.size<=x) w' (ps.map (fun p=>if act=true then Ak n0 u p else p)) A1 c1/\ListV (fun x=>K x\/w.heap.size<=x) w' (vs.map (fun v:ByteArray×List Ty=>(v.1,v.2.map (fun p=>if act=true then Ak n0 u p else p)))) C1 e1/\w'.heap[wk]?=some (.cells #[.int .i64 ((a+(An ps+Be vs):Nat):Int)] 85 (0,0))/\StaS K Z w' sb u nd/\ButG (fun x=>x=sb\/x=wk\/x=g2) w w')->PO (.returned (.tuple #[])) w'):=Hd fun w' h=>by rw[hPO];exact⟨rfl,h⟩
 clear hPO;have hgl:g2<w.heap.size:=hZl g2 hZg;have hwl:wk<w.heap.size:=hZl wk hZw;have hsl:sb<w.heap.size:=hZl sb hZs;have HLT:Hid (g2<w.heap.size/\wk<w.heap.size/\sb<w.heap.size):=Hd ⟨hgl,hwl,hsl⟩;have HX:=Hd hat;have HP:Hid (∀ wx,ButG (fun x=>x=sb\/x=wk\/x=g2) w wx->ListT K wx ps A c):=Hd fun wx hx=>hP.but hx fun x hk=>⟨fun h=>by have:=hK x hk;rcases h with h | h | h;exact this.2.1 h;exact this.2.2.1 h;exact this.2.2.2 h,hk⟩;have HVV:Hid (∀ wx,ButG (fun x=>x=sb\/x=wk\/x=g2) w wx->ListV K wx vs C e):=Hd fun wx hx=>hV.but hx fun x hk=>⟨fun h=>by have:=hK x hk;rcases h with h | h | h;exact this.2.1 h;exact this.2.2.1 h;exact this.2.2.2 h,hk⟩;have HKK:=Hd hK;have HE:=Hd hE;have HST0:=Hd hS;have HZ:Hid (Z sb/\Z wk/\Z g2/\∀ x,Z x->x<w.heap.size):=Hd ⟨hZs,hZw,hZg,hZl⟩;have HC0:=Hd hwk;have HWS:=Hd hws;have HG2N:=Hd hg2;have HO0:=Hd hx2;have HCT:=Hd hct;have HFP:=Hd hfp;have HIP:=Hd ihp;have hpl:=S4 ps;have HPL:Hid (ps.length<=4096):=Hd (by omega);have KC:=Hd (Nt hP (by omega));have HACT:=Hd hact;have HV0:=Hd hv0;have HVL:=Hd hvl;have HFV:=Hd hfv;have HIV:=Hd ihv;have HFU:=Hd hfu;have HCAP:=Hd hcap;have HND:=Hd hnd;have HFF:=Hd (Wc hfp hfv);clear hat hP hV hK hE hS hZs hZw hZg hZl hwk hws hg2 hx2 hct hfp ihp hgl hwl hsl hpl hact hv0 hvl hfv ihv hfu hcap hnd;go_enter Tryz.func82,Tryz.ntmps82;obtain⟨x3,x5⟩:=HX.out w (ButG.refl _ _);go_wp2_with fail;refine KC.out.mono ?_;rintro r w2 ⟨A5,c5,rfl,ho,hb2⟩;have HB2:=Hd hb2;have HO2:=Hd ho;clear ho hb2 KC x3 x5;obtain⟨x3,x5⟩:=HX.out w2 (ButG.of_below HB2.out);go_wp2_with fail
 go_loopw [8,9,24] (fun vn vp v wr=>∃ i:Nat,i<=vs.length/\v=.int .i64 i/\NmO w.heap.size wr vn ((vs.take i).map (·.1))/\OutT K w wr vp (ps++((vs.take i).map (·.2)).flatten)/\Below w.heap.size w wr) (fun _ _ v _=>vs.length - (intOf v).toNat)
 case atStart=>exact⟨0,Nat.zero_le _,rfl,World.ownsRow_nil _ _ _ _,by simpa using HO2.out,HB2.out⟩
 case round=>
  obtain⟨i,hi,rfl,hn,ho,hb⟩:=hrel;have HN:=Hd hn;have HO:=Hd ho;have HB:=Hd hb;have hvl:=HVL.out;by_cases hin:i<vs.length
  ·have t1:decide ((i:Int)<(vs.length:Int))=true:=by simp;omega
   have wr2:wrap64 ((i:Int)+1)=((i+1:Nat):Int):=Ao (by omega);have HM:=Hd (Ba hin);have HIn:Hid (i+1<=vs.length):=Hd hin;obtain⟨vb,vo,hA,-,hvat⟩:=(HVV.out wr (ButG.of_below hb)).at (Nat.lt_of_le_of_lt (Nat.zero_le i) hin);subst hA;obtain⟨B1,d1,c0,c1,hsz,hlt⟩:=hvat i hin;have hbl:(ps++((vs.take i).map (·.2)).flatten).length+(vs[i]'hin).2.length<=1099511627776:=by
    have h1:=HCT.out;have h2:=Ia (List.getElem_mem hin);have h3:=S4 (vs[i]'hin).2;have h4:=HPL.out;have h5:((vs.take i).map (·.2)).flatten.length<=Be vs:=by
     have h6:∀ l:Bm,(l.map (·.2)).flatten.length<=Be l:=by
      intro l
      induction l with
      | nil=>simp
      | cons a l ih=>
       have h7:=S4 a.2;simp only[List.map_cons,List.flatten_cons,List.length_append];show a.2.length+_<=An a.2+Be l;omega
     have h8:=h6 (vs.take i);have h9:Be (vs.take i)<=Be vs:=by
      unfold Be;rw[List.map_take];exact Ox _ _
     omega
    rw[List.length_append];omega
   have HBL:=Hd hbl;have HT1:Hid ((vs.take (i+1)).map (·.1)=(vs.take i).map (·.1)++[(vs[i]'hin).1]):=Hd (by rw[List.take_succ_eq_append_getElem hin,List.map_append];rfl);have HT2:Hid (ps++((vs.take (i+1)).map (·.2)).flatten=ps++((vs.take i).map (·.2)).flatten++(vs[i]'hin).2):=Hd (by rw[List.take_succ_eq_append_getElem hin,List.map_append,List.flatten_append];simp);have hnl:((vs.take i).map (·.1)).length=i:=by rw[List.length_map,List.length_take];omega
   have HNL:=Hd hnl;have hl0:=(HVV.out w (ButG.refl _ _)).at (Nat.lt_of_le_of_lt (Nat.zero_le i) hin);obtain⟨vb',vo',hA',-,hvat'⟩:=hl0;obtain⟨B1',d1',e0,e1,-,hlt0⟩:=hvat' i hin;injection hA' with hA'
   injection hA' with h1 h2 _
   subst h1;subst h2;have hee:=Aa hb e1;rw[c1] at hee;injection hee with hee
   injection hee with h3 _ h4
   subst h3;subst h4;have HL0:=Hd hlt0;generalize (vs.take i).map (·.1)=N0 at HN HT1 HNL hn;generalize ps++((vs.take i).map (·.2)).flatten=T0 at HO HT2 HBL ho hbl;have HWT:Hid (wr.heap.size<wr.heap.size+1):=Hd (Nat.lt_succ_self _);generalize vs[i]'hin=vi at c0 c1 hsz hlt hlt0 HL0 HT1 HT2 HBL hbl e0 e1;obtain⟨nm,bd⟩:=vi;dsimp only at c0 c1 hsz hlt hlt0 HL0 HT1 HT2 HBL hbl e0 e1;obtain⟨W1,hW1⟩:∃ x,x=wr.alloc (.cells #[.string nm,.slice B1 bd.length d1] 62):=⟨_,rfl⟩;have hb1:Below wr.heap.size wr W1:=by rw[hW1];exact (Below.refl _ _).alloc (Nat.le_refl _) _
   have hx1:W1.heap[wr.heap.size]?=some (.cells #[.string nm,.slice B1 bd.length d1] 62 (0,0)):=by rw[hW1];exact heap_alloc_new wr _
   have hs1:W1.heap.size=wr.heap.size+1:=by rw[hW1];simp
   obtain⟨W2,hW2⟩:∃ x,x=W1.alloc (.cells #[.string nm] 9):=⟨_,rfl⟩;have hb2:Below W1.heap.size W1 W2:=by rw[hW2];exact (Below.refl _ _).alloc (Nat.le_refl _) _
   have hx2:W2.heap[W1.heap.size]?=some (.cells #[.string nm] 9 (0,0)):=by rw[hW2];exact heap_alloc_new W1 _
   have HX12:=Hd (Bc hb2 (Array.getElem?_eq_some_iff.1 hx1).1 hx1);have HX22:=Hd hx2;have HS1:=Hd hs1;have HW1:=Hd hW1;have HW2:=Hd hW2;have HBW2:Hid (Below wr.heap.size wr W2):=Hd (hb1.trans (hb2.mono hb1.size));have y0:=Ch hx1 0;have y1:=Ch hx1 1;simp only[List.getElem?_toArray,List.getElem?_cons_zero,List.getElem?_cons_succ] at y0 y1;have i1:(0:Int)<=(i:Int):=by omega
   have i2:(i:Int)<(vs.length:Int):=by omega
   clear hi hn ho hb hvl hvat hvat' hlt hlt0 hbl hnl e0 e1 hsz hW1 hb1 hx1 hs1 hW2 hb2 hx2;go_upto_region 5 with fail
   rw[<-HW1.out];clear c0 c1;go_wp2_with (at_builtin;refine wpList_plain rfl fun Kx hK=>?_;rw[<-HW2.out];go_loud (refine Pz (B:=w.heap.size) (l:=N0) (s:=nm) (gg:=W1.heap.size) _ _ rfl (by rfl) (by rfl) (HN.out.keep fun b hb=>HBW2.out.block b (HN.out.lt hb).2) (by rw[Ch HX22.out];rfl) (Nat.le_trans HB.out.size HBW2.out.size) (by rw[HNL.out];have h1:=HVL.out;have h2:=HIn.out;omega) ?_));intro v3 W3 hn3 hg3;refine hK _ _ ?_;clear hK Kx y0 y1;have hlt8:=fun b (e:u8.ownBlock=some b)=>(HN.out.lt e).2;have ho3:OutT K w W3 u9 T0:=HO.out.keep fun b hb=>by
    obtain⟨vs',h1,-⟩:=HO.out;obtain⟨c9,h9⟩:=J8 h1 hb;have hl9:=(Array.getElem?_eq_some_iff.1 h9).1;exact (hg3.block b (Nat.lt_of_lt_of_le hl9 HBW2.out.size) fun e=>Us HN.out HO.out e.symm hb).trans (HBW2.out.block b hl9)
   have hx3:W3.heap[wr.heap.size]?=some (.cells #[.string nm,.slice B1 bd.length d1] 62 (0,0)):=(hg3.block wr.heap.size (Array.getElem?_eq_some_iff.1 HX12.out).1 fun e=>by have:=hlt8 _ e.symm;omega).trans HX12.out;have hb3:Below w.heap.size w W3:=(HB.out.trans (HBW2.out.mono HB.out.size)).grown hg3 (Nat.le_trans HB.out.size HBW2.out.size) fun k hk=>(HN.out.lt hk).1;have y1:=Ch hx3 1;simp only[List.getElem?_toArray,List.getElem?_cons_zero,List.getElem?_cons_succ] at y1;have HO3:=Hd ho3;have HN3:=Hd hn3;have HB3:=Hd hb3;clear hlt8 ho3 hx3 hb3 hg3 hn3;go_wp2_with (at_builtin;refine wpList_plain rfl fun Kx hK=>?_;go_loud (refine Nj (w0:=w) (ts:=T0) (l:=bd) _ _ rfl (by rfl) (by rfl) HO3.out HL0.out HB3.out HBL.out ?_));intro v4 W4 ho4 hb4 hg4;refine hK _ _ ?_;clear hK Kx y1;have hn4:NmO w.heap.size W4 v3 (N0++[nm]):=World.ownsRow.kept HN3.out hg4 (by
    cases e:v3.ownBlock with
    | none=>exact .inl rfl
    | some b=>exact .inr fun e2=>Us HN3.out HO3.out e e2.symm)
   have HFIN:Hid (NmO w.heap.size W4 v3 ((vs.take (i+1)).map (·.1))/\OutT K w W4 v4 (ps++((vs.take (i+1)).map (·.2)).flatten)/\Below w.heap.size w W4):=Hd ⟨by rw[HT1.out];exact hn4,by rw[HT2.out];exact ho4,hb4⟩;clear ho4 hb4 hg4 hn4;go_wp2_with fail;refine⟨⟨i+1,HIn.out,by first | rfl | rw[wr2],HFIN.out⟩,?_⟩;first | exact HM.out | (rw[wr2];exact HM.out)
  ·have t1:decide ((i:Int)<(vs.length:Int))=false:=by simp;omega
   obtain rfl:i=vs.length:=by omega
   rw[List.take_length] at hn ho;obtain⟨wl,hwl⟩:∃ x:World,x=wr:=⟨_,rfl⟩;subst hwl;have hpc:(ps++(vs.map (·.2)).flatten).length<=1000000000000000:=by
    have h1:=S4 (ps++(vs.map (·.2)).flatten);have h2:=Qh ps vs;unfold D3 at h2;rw[Br] at h2;have h3:=HCT.out;have h4:Bd []+Be []=0:=(by unfold Bd Be;simp);omega
   obtain⟨TL,hTL⟩:∃ TL,TL=ps++(vs.map (·.2)).flatten:=⟨_,rfl⟩;rw[<-hTL] at ho hpc;obtain⟨AN,cN,hv8,hls,hnb⟩:=hn.list (by rw[List.length_map];omega);obtain⟨AT,cT,hv9,hlT⟩:=ho.list (fun b h=>(HKK.out b h).1) hb hpc;rw[List.length_map] at hv8;subst hv8;subst hv9;have hrT0:RepT (fun b=>(K b\/w.heap.size<=b)/\b<wl.heap.size) wl (.mk 12 Bk 0 TL [] []) (Ar 12 Bk 0 AT TL.length cT none 0 0 none 0 0):=RepT.of (fs:=[]) (vs:=[]) (by decide) hlT.both ⟨0,0,⟨Nat.le_refl _,Nat.zero_le _,fun _=>rfl,fun h=>absurd h (by simp)⟩,fun i hi=>absurd hi (by simp)⟩ ⟨0,0,⟨Nat.le_refl _,Nat.zero_le _,fun _=>rfl,fun h=>absurd h (by simp)⟩,fun i hi=>absurd hi (by simp)⟩;have hrT:RepT (fun b=>(K b\/w.heap.size<=b)/\b<wl.heap.size) wl (D3 ps vs) (Ar 12 Bk 0 AT TL.length cT none 0 0 none 0 0):=by unfold D3;rw[<-hTL];exact hrT0
   have hfc:=Qh ps vs;have hbw:ButG (fun x=>x=sb\/x=wk\/x=g2) w wl:=ButG.of_below hb;have KE0:=Jd (K:=K) (c:=cN) hls (fun b o e=>by have h1:=(hnb b o e).1;have h2:=HLT.out;omega) (by rw[List.length_map];exact HV0.out) hrT (fun x hx=>hx.2) (fun x hx=>⟨Nat.lt_of_lt_of_le (HKK.out x hx).1 hb.size,(HKK.out x hx).2.1,(HKK.out x hx).2.2.1⟩) (HE.out wl hbw) (HST0.out.but (ButG.of_below (O:=fun _=>False) hb) (fun h=>h) (fun x h=>h.elim) fun _ _ h=>h) HZ.out.1 (fun x h=>Nat.lt_of_lt_of_le (HZ.out.2.2.2 x h) hb.size) (Nat.lt_of_lt_of_le HLT.out.2.1 hb.size) ⟨HFF.out.1,HFF.out.2,by have h1:=HCT.out;omega⟩ HFU.out (fun x hx=>Nat.le_trans (Lm _ _ hrT x (Oc x _ hx)) (by decide)) HCAP.out;rw[<-HACT.out,List.length_map] at KE0;simp only[Ar] at KE0;have KE:=Hd KE0;have HBL:=Hd hb;have HLS:=Hd hls;have HNB:=Hd hnb;obtain⟨x3',x5'⟩:=HX.out wl hbw;clear hi hn ho hb hvl hin hls hnb hlT hrT hrT0 hfc hbw KE0 hpc hTL;go_wp2_with fail;refine KE.out.mono ?_;rintro r w5 ⟨m',rfl,hE5,hS5,hb5,hm5⟩;have hb05:ButG (fun x=>x=sb\/x=wk\/x=g2) w w5:=(ButG.of_below (O:=(fun x=>x=sb\/x=wk\/x=g2)) HBL.out).trans hb5 fun x h=>.inl (.inl h);have KV:=Hd (Sc (HVV.out w5 hb05) HV0.out HVL.out);have HE5:=Hd hE5;have HS5:=Hd hS5;have HB5:=Hd hb5;have HB05:=Hd hb05;have HM5:=Hd hm5;clear hE5 hS5 hb5 hb05 hm5 KE x3 x5 x3' x5';obtain⟨x3,x5⟩:=HX.out w5 HB05.out;go_wp2_with fail;refine KV.out.mono ?_;rintro r w6 ⟨gp,c6,rfl,hgp,hcc,hpl,hb6⟩;have hx6:=Bc hb6 (Nat.lt_of_lt_of_le HLT.out.1 HB05.out.size) (HB5.out.up (fun e=>HG2N.out.1 e) (Bc HBL.out HLT.out.1 HO0.out));obtain⟨w7,hw7⟩:∃ x,x=w6.setCell ⟨g2,5,none⟩ (.slice (some ⟨gp,0,none⟩) vs.length c6):=⟨_,rfl⟩;have hb67:ButG (fun x=>x=g2) w6 w7:=by rw[hw7];exact (ButG.refl (fun x=>x=g2) w6).put1 5 _
   have hb57:ButG (fun x=>x=g2) w5 w7:=(ButG.of_below (O:=fun x=>x=g2) hb6).trans hb67 fun x h=>.inl h;have hb07:ButG (fun x=>x=sb\/x=wk\/x=g2) w w7:=HB05.out.trans hb57 fun x h=>.inl (.inr (.inr h));have hx7:w7.heap[g2]?=some (.cells #[.int .i64 13,.string s,.int .i64 n,.slice A ps.length c,.slice B 0 d,.slice (some ⟨gp,0,none⟩) vs.length c6] 26 (0,0)):=by rw[hw7];exact Co hx6 5 _
   have hc7:w7.heap[wk]?=some (.cells #[.int .i64 (a:Int)] 85 (0,0)):=hb57.up (fun e=>HG2N.out.2 e.symm) (HB5.out.up (fun e=>HWS.out e) (Bc HBL.out HLT.out.2.1 HC0.out));have HGW:Hid (wl.heap.size<=gp/\w.heap.size<=wl.heap.size/\gp<w7.heap.size/\w.heap.size<=w7.heap.size/\w5.heap.size<=gp):=Hd (by have h1:=HB5.out.size;have h2:=HBL.out.size;have h3:=hpl.lt;have h4:=hb67.size;omega);obtain⟨P,hP⟩:∃ P:Nat->Prop,P=fun x=>(K x\/w7.heap.size<=x)/\x≠sb/\x≠wk/\x≠gp:=⟨_,rfl⟩;have HPP:Hid (∀ x,P x↔(K x\/w7.heap.size<=x)/\x≠sb/\x≠wk/\x≠gp):=Hd fun x=>by rw[hP]
   obtain⟨Z',hZ'⟩:∃ Z':Nat->Prop,Z'=fun x=>Z x\/x=gp:=⟨_,rfl⟩;have HZP:Hid (∀ x,Z' x↔Z x\/x=gp):=Hd fun x=>by rw[hZ']
   have hpl7:PlV P w7 gp vs:=(hpl.weak fun x hx=>(HPP.out x).2 ⟨.inl hx,(HKK.out x hx).2.1,(HKK.out x hx).2.2.1,by have h1:=(HKK.out x hx).1;have h2:=HGW.out;omega⟩).but hb67 (by have h1:=HGW.out;have h2:=HLT.out;show ¬ gp=g2;omega) fun x hx e=>by
    have e:x=g2:=e;have h1:=((HPP.out x).1 hx).1;have h2:=HGW.out;have h3:=HLT.out;rcases h1 with h1 | h1
    ·exact (HKK.out x h1).2.2.2 e
    ·omega
   have hs7:StaS K Z' w7 sb u nd:=((HS5.out.more fun x h=>((HZP.out x).1 h).imp id fun e=>by have:=HGW.out;omega).but (ButG.of_below (O:=fun _=>False) hb6) (fun h=>h) (fun x h=>h.elim) fun _ _ h=>h).but hb67 (fun e=>HG2N.out.1 e.symm) (fun x h=>.inl ((HZP.out x).2 (.inl (by rw[show x=g2 from h];exact HZ.out.2.2.1)))) fun x hx e=>(HKK.out x hx).2.2.2 e;have HTO:Hid (∀ wr,ButG (fun x=>x=sb\/x=wk\/x=gp) w7 wr->ButG (fun x=>x=sb\/x=wk\/x=g2) w wr):=Hd fun wr hx=>hb07.trans hx fun x h=>by
    have h1:=HGW.out;rcases h with h | h | h
    ·exact .inl (.inl h)
    ·exact .inl (.inr (.inl h))
    ·exact .inr (by omega)
   have HEM:Hid (∀ wr,ButG (fun x=>x=sb\/x=wk\/x=gp) w7 wr->EnvP wk sb n0 wr m' act):=Hd fun wr hx=>HE5.out.butM ((hb57.mono (O':=fun x=>x=g2\/x=sb\/x=wk\/x=gp) fun x h=>.inl h).trans hx fun x h=>.inl (.inr h)) fun x h=>by
    have h1:=HGW.out;have h2:=HLT.out;rcases h with h | h | h | h
    ·exact .inr (.inr (.inr fun e=>by have:=HM5.out x e;omega))
    ·exact .inr (.inl h)
    ·exact .inl h
    ·exact .inr (.inr (.inl (by omega)))
   have HNM:Hid (∀ wr,ButG (fun x=>x=sb\/x=wk\/x=gp) w7 wr->ListS wr (vs.map (·.1)) AN):=Hd fun wr hx=>HLS.out.butL (((HB5.out.mono (O':=fun x=>x=g2\/x=sb\/x=wk\/x=gp) fun x h=>.inr (.inl h)).trans hb57 fun x h=>.inl (.inl h)).trans hx fun x h=>.inl (.inr h)) fun b o e hlt h=>by
    have h1:=HGW.out;have h2:=HLT.out;have h3:=(HNB.out b o e).1;have h4:=HB5.out.size;rcases h with h | h | h | h <;> omega
   have HIN7:Hid (LoV P Z' K u wk sb nd g2 gp #[.int .i64 13,.string s,.int .i64 n,.slice A ps.length c,.slice B 0 d,.slice (some ⟨gp,0,none⟩) vs.length c6] w7 w7 a vs):=Hd ⟨hc7,hx7,hpl7,hs7,ButG.refl _ _⟩;have HCC:=Hd hcc;have HW7:=Hd hw7;obtain⟨q0,q1,q2,q3,q4,q5,z0,z1,z2,z3,z4,z5⟩:=Jp hx6;clear hgp hcc hpl hb6 hx6 hw7 hb67 hb57 hb07 hx7 hc7 hP hZ' hpl7 hs7 KV x3 x5;go_upto_region 10 with fail
   rw[<-HW7.out];clear q0 q1 q2 q3 q4 q5 z0 z1 z2 z3 z4 z5;obtain⟨-,-,-,-,-,b5⟩:=Fs HIN7.out.out;go_wp2_with fail;clear b5 t1;have HNA:Hid (act=true->(nd=1/\Ai u=1)):=Hd fun h=>HND.out (by rw[<-HACT.out];exact h)
   go_loopw [59] (fun v wr=>∃ (i:Nat) (S:Bm),i<=vs.length/\v=.int .i64 i/\LoV P Z' K u wk sb nd g2 gp #[.int .i64 13,.string s,.int .i64 n,.slice A ps.length c,.slice B 0 d,.slice (some ⟨gp,0,none⟩) vs.length c6] w7 wr (a+Be (vs.take i)) S/\S.length=vs.length/\S.take i=(vs.take i).map (fun v:ByteArray×List Ty=>(v.1,v.2.map (fun p=>if act=true then Ak n0 u p else p)))/\S.drop i=vs.drop i) (fun v _=>vs.length - (intOf v).toNat)
   case atStart=>exact⟨0,vs,Nat.zero_le _,rfl,by simpa [Be] using HIN7.out,rfl,rfl,rfl⟩
   case round=>
    obtain⟨i,S,hi,rfl,hst,hlen,htk,hdr⟩:=hrel;have HST:=Hd hst;have HLEN:=Hd hlen;have HTK:=Hd htk;have hto:=HTO.out wr hst.but;by_cases hin:i<vs.length
    ·have hvl:=HVL.out;have t1:decide ((i:Int)<(vs.length:Int))=true:=(by simp;omega);have wr2:wrap64 ((i:Int)+1)=((i+1:Nat):Int):=Ao (by omega);have HM:=Hd (Ba hin);have HIn:Hid (i+1<=vs.length):=Hd hin;obtain⟨vb,vo,hA,hKb,hvat⟩:=(HVV.out wr hto).at (Nat.lt_of_le_of_lt (Nat.zero_le i) hin);subst hA;obtain⟨B1,d1,c0,c1,hsz,hlt⟩:=hvat i hin;obtain⟨nb,no,hAN,-,hnat⟩:=HNM.out wr hst.but;have hAN':=hAN (by rw[List.length_map];exact HV0.out);subst hAN';have hnm:=hnat i (by rw[List.length_map];exact hin);rw[List.getElem_map] at hnm;have hnbl:nb<wr.heap.size:=World.block_lt_of_cell? _ _ hnm;have hcu:Be (vs.take (i+1))=Be (vs.take i)+An (vs[i]'hin).2:=by
      rw[List.take_succ_eq_append_getElem hin];unfold Be;rw[List.map_append,List.sum_append];simp
     have HCU:=Hd hcu;have HBD:Hid (a+Be (vs.take i)+An (vs[i]'hin).2<=4096):=Hd (by
      have h1:=HCT.out;have h2:Be (vs.take (i+1))<=Be vs:=(by unfold Be;rw[List.map_take];exact Ox _ _);omega)
     have HTF:Hid ((vs.take (i+1)).map (fun v:ByteArray×List Ty=>(v.1,v.2.map (fun p=>if act=true then Ak n0 u p else p)))=(vs.take i).map (fun v:ByteArray×List Ty=>(v.1,v.2.map (fun p=>if act=true then Ak n0 u p else p)))++[(fun v:ByteArray×List Ty=>(v.1,v.2.map (fun p=>if act=true then Ak n0 u p else p))) (vs[i]'hin)]):=Hd (by rw[List.take_succ_eq_append_getElem hin,List.map_append];rfl);have HTU:=Hd fun u=>Kj hin hlen hdr u;have hfv:=HFV.out (vs[i]'hin) (List.getElem_mem hin);have hiv:=HIV.out (vs[i]'hin) (List.getElem_mem hin);have hdw:ButG (fun x=>x=sb\/x=wk\/x=g2) w wr.drew:=hto.then (Below.refl _ _).drew;have hdw7:ButG (fun x=>x=sb\/x=wk\/x=gp) w7 wr.drew:=hst.but.then (Below.refl _ _).drew;have KA:=Hd (Li (w:=wr.drew) (act:=act) (m:=m') (hlt.later (Below.refl _ _).drew) (fun x hx=>⟨Nat.lt_of_lt_of_le (HKK.out x hx).1 hdw.size,(HKK.out x hx).2.1,(HKK.out x hx).2.2.1⟩) (HEM.out _ hdw7) (hst.sta.but (ButG.of_below (O:=fun _=>False) (Below.refl _ _).drew) (fun h=>h) (fun x h=>h.elim) fun _ _ h=>h) ((HZP.out _).2 (.inl HZ.out.1)) ((HZP.out _).2 (.inl HZ.out.2.1)) (fun x h=>by
      show x<wr.heap.size;have h1:=hdw.size;have h2:wr.drew.heap.size=wr.heap.size:=rfl;have h3:=hst.row.lt;rcases (HZP.out x).1 h with h | h
      ·have:=HZ.out.2.2.2 x h;omega
      ·omega) hst.cnt HWS.out HBD.out hfv (fun p _ h=>.inl (HNA.out h)) hiv)
     have HGP:Hid (w.heap.size<=gp/\gp<wr.heap.size/\w7.heap.size<=wr.heap.size/\w.heap.size<=w7.heap.size):=Hd ⟨by have h1:=HGW.out;omega,hst.row.lt,hst.but.size,HGW.out.2.2.2.1⟩;have HPLV:=Hd hst.row;have HNM1:Hid ((vs[i]'hin).1.size<=1000000000000000):=Hd hsz;have HC:Hid (∀ wx,ButG (fun x=>x=sb\/x=wk\/x=gp) wr wx->wx.cell? ⟨g2,5,none⟩=some (.slice (some ⟨gp,0,none⟩) vs.length c6)/\wx.cell? ⟨nb,no+i,none⟩=some (.string (vs[i]'hin).1)/\wx.cell? ⟨bp,op+5,none⟩=some (.slice (some ⟨vb,vo,none⟩) vs.length e)/\wx.cell? ⟨vb,vo+i*2+1,none⟩=some (.slice B1 (vs[i]'hin).2.length d1)):=Hd fun wx hx=>by
      have hx7:ButG (fun x=>x=sb\/x=wk\/x=gp) w7 wx:=HST.out.but.trans hx fun x h=>.inl h;have h1:=hx.up (by have h1:=HGP.out;have h2:=HLT.out;have h3:=HG2N.out;show ¬ (g2=sb\/g2=wk\/g2=gp);omega) HST.out.out;obtain⟨nb',no',hAN2,-,hnat2⟩:=HNM.out wx hx7;have h2:=hAN2 (by rw[List.length_map];exact HV0.out);injection h2 with h2
      injection h2 with h2 h3 _
      subst h2;subst h3;have h4:=hnat2 i (by rw[List.length_map];exact hin);rw[List.getElem_map] at h4;refine⟨(Fs h1).2.2.2.2.2,h4,(HX.out wx (HTO.out wx hx7)).2,?_⟩;exact hx.cell (by have h1:=HKK.out vb hKb;have h2:=HGP.out;show ¬ (vb=sb\/vb=wk\/vb=gp);omega) c1
     have i1:(0:Int)<=(i:Int):=(by omega);have i2:(i:Int)<(vs.length:Int):=(by omega);generalize vs[i]'hin=vi at HCU HBD HTF KA HNM1 HC;obtain⟨nm,bd⟩:=vi;dsimp only at HCU HBD HTF KA HNM1 HC;have HNM:=HNM1;clear hi hst hlen htk hdr hto hvl hvat c0 c1 hsz hlt hAN hnat hnm hnbl hcu hfv hiv hdw hdw7 hKb;go_upto_region 13 with fail
     refine wp_region_held_drew (S:=(fun w'=>w'.cell? ⟨g2,5,none⟩=some (.slice (some ⟨gp,0,none⟩) vs.length c6)/\w'.cell? ⟨nb,no+i,none⟩=some (.string nm)/\w'.cell? ⟨bp,op+5,none⟩=some (.slice (some ⟨vb,vo,none⟩) vs.length e)/\w'.cell? ⟨vb,vo+i*2+1,none⟩=some (.slice B1 bd.length d1))) (by kernel_rfl) (HC.out _ (ButG.of_below (Below.refl _ _).drew)) (fun hHeld=>?_);refine Plan.start [0,1,2,3,4,5,6,7,8,9,10,11,12,13,14,15,16,17,18] ?_
     iterate 19 (refine Plan.tk (so rfl) hHeld ?_;try simp only[Act.put,Ax,Ay,Az])
     refine Plan.done ?_;refine wpAnyH_ready (rs:=[19]) (by kernel_rfl) (by simp) ?_;refine AllReadyH.cons (sd (some 81) rfl) (fun Kx hK=>?_) AllReadyH.nil;go_simp;refine KA.out.mono ?_;rintro r w6 ⟨A9,c9,rfl,hl6,hc6,hs6,hb6⟩;have HB6:Hid (ButG (fun x=>x=sb\/x=wk) wr w6):=Hd (ButG.from (Below.refl wr.heap.size wr).drew hb6);have hpl6:=HPLV.out.but HB6.out (by have h2:=HGP.out;have h3:=HLT.out;show ¬ (gp=sb\/gp=wk);omega) (fun x hx h=>by have h1:=(HPP.out x).1 hx;exact h.elim h1.2.1 h1.2.2.1);have hl6':ListT P w6 (bd.map fun p=>if act=true then Ak n0 u p else p) A9 c9:=hl6.weak fun x hx=>by
      have h1:=HGP.out;have h2:=HLT.out;have h5:wr.drew.heap.size=wr.heap.size:=rfl;refine (HPP.out x).2 ?_;rcases hx with hx | hx
      ·have h6:=HKK.out x hx;exact⟨.inl hx,h6.2.1,h6.2.2.1,by omega⟩
      ·exact⟨.inr (by omega),by omega,by omega,by omega⟩
     have HX5:=Hd hc6;have HS5:=Hd hs6;have hset:=hpl6.setq (q:=bd.length) (fun x hx=>((HPP.out x).1 hx).2.2.2) (by have h1:=HLEN.out;have h2:=HIn.out;omega:i<S.length) HNM.out (by rw[List.length_map]) hl6';obtain⟨u0',q0⟩:=hpl6.cell (i*2) (by have h1:=HLEN.out;have h2:=HIn.out;omega);obtain⟨u1',q1⟩:=hpl6.cell (i*2+1) (by have h1:=HLEN.out;have h2:=HIn.out;omega);have y0:=hpl6.free (i*2);have y1:=hpl6.free (i*2+1);have HST9:Hid (LoV P Z' K u wk sb nd g2 gp #[.int .i64 13,.string s,.int .i64 n,.slice A ps.length c,.slice B 0 d,.slice (some ⟨gp,0,none⟩) vs.length c6] w7 (J9 w6 gp (i*2) (.string nm) (.slice A9 bd.length c9)) (a+Be (vs.take (i+1))) (S.set i (nm,bd.map fun p=>if act=true then Ak n0 u p else p))):=Hd (by
      have h1:=HGP.out;have h2:=HLT.out;have hp:ButG (fun x=>x=gp) w6 (J9 w6 gp (i*2) (.string nm) (.slice A9 bd.length c9)):=M2 (ButG.refl _ _) (.inl rfl);refine⟨?_,hp.up (by show ¬ g2=gp;omega) (HB6.out.up (by show ¬ (g2=sb\/g2=wk);have:=HG2N.out;omega) HST.out.out),hset,?_,(HST.out.but.trans HB6.out fun x h=>.inl (h.imp id .inl)).trans hp fun x h=>.inl (.inr (.inr h))⟩
      ·rw[HCU.out,<-Nat.add_assoc];exact hp.up (by show ¬ wk=gp;omega) HX5.out
      ·exact HS5.out.but hp (by show ¬ sb=gp;omega) (fun x h=>.inl ((HZP.out x).2 (.inr h))) fun x hx e=>by have h5:=(HKK.out x hx).1;have e:x=gp:=e;omega)
     clear hpl6 hset hl6 hl6' hc6 hs6 hb6 KA;go_wp2_with fail;refine hK.out _ _ (HC.out _ (HB6.out.mono fun x h=>h.imp id .inl)) (fun hHeld=>?_);clear hK Kx;try simp only[Act.put,Ax,Ay,Az]
     refine Plan.start [20,21] ?_
     iterate 2 (refine Plan.tk (so rfl) hHeld ?_;try simp only[Act.put,Ax,Ay,Az])
     refine Plan.done ?_;refine wpAnyH_ready (rs:=[22]) (by kernel_rfl) (by simp) ?_;refine AllReadyH.cons (sd none rfl) (fun Kx hK=>?_) AllReadyH.nil;go_simp;refine hK.out _ _ (HC.out _ (M2 (HB6.out.mono fun x h=>h.imp id .inl) (.inl (.inr (.inr rfl))))) (fun hHeld=>?_);clear hK Kx;try simp only[Act.put,Ax,Ay,Az]
     refine wpAnyH_done (by kernel_rfl) ?_ _;clear hHeld q0 q1 y0 y1;have HTN:=Hd (HTU.out (nm,bd.map fun p=>if act=true then Ak n0 u p else p));go_wp2_with fail
     go_roundw
     case rel=>
      refine⟨i+1,S.set i (nm,bd.map fun p=>if act=true then Ak n0 u p else p),HIn.out,by first | rfl | rw[wr2],HST9.out,HTN.out.2.2.1,?_,HTN.out.2.2.2.1⟩;rw[HTN.out.2.2.2.2,HTK.out,HTF.out]
     case measure=>first | exact HM.out | (rw[wr2];exact HM.out)
    ·have t1:decide ((i:Int)<(vs.length:Int))=false:=(by simp;omega);obtain rfl:i=vs.length:=by omega
     have hS:S=vs.map (fun v:ByteArray×List Ty=>(v.1,v.2.map (fun p=>if act=true then Ak n0 u p else p))):=(by rw[<-hlen,List.take_length] at htk;rw[htk,hlen,List.take_length]);have hcn:=hst.cnt;rw[List.take_length] at hcn;have HSE:=Hd hS;have HRW:=Hd hst.row;have HBUT:=Hd hst.but;have hl3:=hto.size;have KA:=Hd (Li (w:=wr) (act:=act) (m:=m') (HP.out wr hto) (fun x hx=>⟨Nat.lt_of_lt_of_le (HKK.out x hx).1 hto.size,(HKK.out x hx).2.1,(HKK.out x hx).2.2.1⟩) (HEM.out _ hst.but) hst.sta ((HZP.out _).2 (.inl HZ.out.1)) ((HZP.out _).2 (.inl HZ.out.2.1)) (fun x h=>by
      have h3:=hst.row.lt;rcases (HZP.out x).1 h with h | h
      ·have:=HZ.out.2.2.2 x h;omega
      ·omega) hcn HWS.out (by have:=HCT.out;omega) HFP.out (fun p _ h=>.inl (HNA.out h)) HIP.out)
     have HTW:=Hd hto;obtain⟨wq,hwq⟩:∃ x:World,x=wr:=⟨_,rfl⟩;subst hwq;obtain⟨x3,x5⟩:=HX.out wq hto;clear hi hin hst hlen htk hdr hS hcn hl3 hto;go_wp2_with fail;refine KA.out.mono ?_;rintro r w8 ⟨A',c',rfl,hl8,hc8,hs8,hb8⟩;have hx8:=hb8.up (by show ¬ (g2=sb\/g2=wk);have:=HG2N.out;omega) HST.out.out;obtain⟨q0,q1,q2,q3,q4,q5,z0,z1,z2,z3,z4,z5⟩:=Jp hx8;obtain⟨w9,hw9⟩:∃ x,x=w8.setCell ⟨g2,3,none⟩ (.slice A' ps.length c'):=⟨_,rfl⟩;have h89:ButG (fun x=>x=g2) w8 w9:=(by rw[hw9];exact (ButG.refl (fun x=>x=g2) w8).put1 3 _);have hx9:w9.heap[g2]?=some (.cells #[.int .i64 13,.string s,.int .i64 n,(.slice A' ps.length c'),.slice B 0 d,.slice (some ⟨gp,0,none⟩) vs.length c6] 26 (0,0)):=(by rw[hw9];exact Co hx8 3 _);have hK9:∀ x,K x\/w.heap.size<=x->¬ x=g2:=fun x hx e=>by
      have h1:=HLT.out;rcases hx with hx | hx
      ·exact (HKK.out x hx).2.2.2 e
      ·omega
     have hrow9:=(HRW.out.but hb8 (by have h2:=HGW.out;have h3:=HLT.out;show ¬ (gp=sb\/gp=wk);omega) (fun x hx h=>by have h1:=(HPP.out x).1 hx;exact h.elim h1.2.1 h1.2.2.1)).but h89 (by have h2:=HGW.out;have h3:=HLT.out;show ¬ gp=g2;omega) (fun x hx e=>by
      have h1:=((HPP.out x).1 hx).1;have h2:=HGW.out;refine hK9 x (h1.imp id fun h=>by omega) e)
     have HFIN:Hid (∃ A1 c1 C1 e1,w9.heap[g2]?=some (.cells #[.int .i64 13,.string s,.int .i64 n,.slice A1 ps.length c1,.slice B 0 d,.slice C1 vs.length e1] 26 (0,0))/\ListT (fun x=>K x\/w.heap.size<=x) w9 (ps.map (fun p=>if act=true then Ak n0 u p else p)) A1 c1/\ListV (fun x=>K x\/w.heap.size<=x) w9 (vs.map (fun v:ByteArray×List Ty=>(v.1,v.2.map (fun p=>if act=true then Ak n0 u p else p)))) C1 e1/\w9.heap[wk]?=some (.cells #[.int .i64 ((a+(An ps+Be vs):Nat):Int)] 85 (0,0))/\StaS K Z w9 sb u nd/\ButG (fun x=>x=sb\/x=wk\/x=g2) w w9):=Hd (by
      refine⟨A',c',some ⟨gp,0,none⟩,c6,hx9,hl8.but h89 fun x hx=>⟨hK9 x (hx.imp id fun h=>by have:=HTW.out.size;omega),hx.imp id fun h=>by have:=HTW.out.size;omega⟩,?_,?_,(hs8.but h89 (fun e=>HG2N.out.1 e.symm) (fun x h=>.inl ((HZP.out x).2 (.inl (by rw[show x=g2 from h];exact HZ.out.2.2.1)))) fun x hx e=>(HKK.out x hx).2.2.2 e).more fun x h=>.inl ((HZP.out x).2 (.inl h)),(HTW.out.trans hb8 fun x h=>.inl (h.imp id .inl)).trans h89 fun x h=>.inl (.inr (.inr h))⟩
      ·have h1:=(hrow9.list (by rw[HLEN.out];exact HCC.out) (by rw[HLEN.out];have:=HVL.out;omega)).but (K':=fun x=>K x\/w.heap.size<=x) (ButG.refl (fun _=>False) _) fun x hx=>⟨id,by
        have h2:=HGW.out;rcases hx with hx | hx
        ·exact ((HPP.out x).1 hx).1.imp id fun h=>by omega
        ·exact .inr (by omega)⟩
       rw[HSE.out] at h1;exact h1
      ·have h1:=h89.up (fun e=>HG2N.out.2 e.symm) hc8;rw[show a+Be vs+An ps=a+(An ps+Be vs) by omega] at h1;exact h1)
     have HW9:=Hd hw9;clear KA x3 x5 hl8 hc8 hs8 hb8 hx8 h89 hx9 hK9 hrow9 hw9;go_wp2_with fail;rw[<-HW9.out];exact bodyPost_end (v:=.tuple #[]) (by simp[results,Tryz.results82,go_sem]) rfl (HPO.out _ HFIN.out)
end Go.Proofs.YtlpfpehegddcfaaGreatDoor
