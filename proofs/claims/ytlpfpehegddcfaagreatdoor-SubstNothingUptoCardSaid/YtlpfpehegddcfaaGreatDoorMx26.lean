import Derived.Test.YtlpfpehegddcfaaGreatDoorMx22
namespace Go.Proofs.YtlpfpehegddcfaaGreatDoor
set_option maxRecDepth 100000
set_option maxHeartbeats 64000000
open Go.RowKit
def Nn (P:Nat->Prop) (w:World) (q:Nat) (A:Option Addr) (c:Nat) (S:Bx):Prop:=(S=[]/\A=none/\c=0)\/∃g,A=some ⟨g,0,none⟩/\q<g/\S.length<=c/\P7 P w g S
theorem Nn.but {P O:Nat->Prop}{w w':World}{q c:Nat}{A:Option Addr}{S:Bx}(h:Nn P w q A c S) (hb:Ad O w w') (hg:∀g,q<g->A=some ⟨g,0,none⟩->¬ O g) (hp:∀x,P x->¬ O x):Nn P w' q A c S:=
 h.imp id fun ⟨g,e,h1,h2,h3⟩=>⟨g,e,h1,h2,h3.but hb (hg g h1 e) hp⟩
theorem Nn.list {P:Nat->Prop}{w:World}{q c:Nat}{A:Option Addr}{S:Bx}(h:Nn P w q A c S) (hl:S.length<=1000000000000000):Dt (fun x=>P x\/(q<x/\A=some ⟨x,0,none⟩)) w S A c:=by
 rcases h with ⟨rfl,rfl,rfl⟩|⟨g,rfl,h1,h2,h3⟩
 ·exact⟨0,0,⟨Nat.le_refl _,Nat.zero_le _,fun _=>rfl,fun h=>absurd h (by simp)⟩,fun i hi=>absurd hi (by simp)⟩
 ·exact (h3.list h2 hl).but (Ad.refl (fun _=>False) w) fun x hx=>⟨id,hx.imp id fun e=>by rw[e];exact⟨h1,rfl⟩⟩
theorem Nn.get {P:Nat->Prop}{w:World}{q c:Nat}{A:Option Addr}{S:Bx}(h:Nn P w q A c S) (h0:0<S.length):∃g,A=some ⟨g,0,none⟩/\q<g/\S.length<=c/\P7 P w g S:=by
 rcases h with ⟨rfl,_⟩|h
 ·exact absurd h0 (by simp)
 ·exact h
theorem Kr {α:Type}{S l:List α}{i:Nat}(hi:i<l.length) (hl:S.length=l.length) (hd:S.drop i=l.drop i) (u:α):S.take (i+1)=S.take i++[l[i]]/\S.drop (i+1)=l.drop (i+1)/\(S.set i u).length=l.length/\(S.set i u).drop (i+1)=l.drop (i+1)/\(S.set i u).take (i+1)=S.take i++[u]:=by
 have hS:i<S.length:=by omega
 rw[List.drop_eq_getElem_cons hi,List.drop_eq_getElem_cons hS]at hd;injection hd with h1 h2
 refine⟨?_,h2,by rw[List.length_set,hl],?_,?_⟩
 ·rw[List.take_succ_eq_append_getElem hS,h1]
 ·rw[List.drop_set_of_lt (by omega)];exact h2
 ·rw[List.take_succ_eq_append_getElem (by rw[List.length_set];exact hS),List.getElem_set_self,List.take_set_of_le (Nat.le_refl _)]
theorem Sh {α:Type}{S l:List α}{i:Nat}(hi:i<l.length) (hl:S.length=l.length) (hd:S.drop i=l.drop i):S[i]'(by omega)=l[i]:=by
 have hS:i<S.length:=by omega
 rw[List.drop_eq_getElem_cons hi,List.drop_eq_getElem_cons hS]at hd;injection hd with h1 h2
theorem PlT.six {P:Nat->Prop}{w:World}{g i:Nat}{l:List Ty}(h:PlT P w g l) (hi:i<l.length):(∃v,w.cell? ⟨g,i*6,none⟩=some v)/\(∃v,w.cell? ⟨g,i*6+1,none⟩=some v)/\(∃v,w.cell? ⟨g,i*6+2,none⟩=some v)/\(∃v,w.cell? ⟨g,i*6+3,none⟩=some v)/\(∃v,w.cell? ⟨g,i*6+4,none⟩=some v)/\∃v,w.cell? ⟨g,i*6+5,none⟩=some v:=
 ⟨h.cell _ (by omega),h.cell _ (by omega),h.cell _ (by omega),h.cell _ (by omega),h.cell _ (by omega),h.cell _ (by omega)⟩
theorem P7.six {P:Nat->Prop}{w:World}{g i:Nat}{l:Bx}(h:P7 P w g l) (hi:i<l.length):(∃v,w.cell? ⟨g,i*8+2,none⟩=some v)/\(∃v,w.cell? ⟨g,i*8+3,none⟩=some v)/\(∃v,w.cell? ⟨g,i*8+4,none⟩=some v)/\(∃v,w.cell? ⟨g,i*8+5,none⟩=some v)/\(∃v,w.cell? ⟨g,i*8+6,none⟩=some v)/\∃v,w.cell? ⟨g,i*8+7,none⟩=some v:=
 ⟨h.cell _ (by omega),h.cell _ (by omega),h.cell _ (by omega),h.cell _ (by omega),h.cell _ (by omega),h.cell _ (by omega)⟩
def L2:Prop:=∀(K:Nat->Prop) (w:World) (t:Ty) (cs:List Value),Aw K w t cs->Aj t=true->(Bi t).length<=1000000000->Calls Tryz.prog 93 #[.agg cs.toArray] w fun e w'=>∃(l:List Z8) (A:Option Addr) (c:Nat),e=.returned (.slice A l.length c)/\Cg w' l A/\(∀x,x∈l↔x∈Bi t)/\l.length<=(Bi t).length/\(∀b o,A=some ⟨b,o,none⟩->w.heap.size<=b)/\Below w.heap.size w w'
theorem Gl (x s:Z8) (n:Int) (p0 p1 p2 p3:Ty):Bp x (.mk 21 s n [p0,p1,p2,p3] [] [])=(Bp x p0 || (!((n == 1) && decide (s=x)) && (Bp x p1 || ((!Dc (Bi p1) x && Bp x p2) || Bp x p3)))):=by
 rw[Dq];have e1:Gp x []=false:=rfl;have e2:Jc x []=false:=rfl;have e3:E9 [] x=false:=rfl;have c0:Cz 21 s n [p0,p1,p2,p3] 0 x=false:=by simp[Cz]
 have c1:Cz 21 s n [p0,p1,p2,p3] 1 x=((n == 1) && decide (s=x)):=by simp[Cz]
 have c2:Cz 21 s n [p0,p1,p2,p3] 2 x=(((n == 1) && decide (s=x)) || Dc (Bi p1) x):=by simp[Cz,Cu]
 have c3:Cz 21 s n [p0,p1,p2,p3] 3 x=((n == 1) && decide (s=x)):=by simp[Cz]
 rw[e1,e2,e3,Dn,Dn,Dn,Dn,Dn];simp only[Nat.zero_add,Nat.reduceAdd];rw[c0,c1,c2,c3];generalize ((n == 1) && decide (s=x))=d1;generalize Dc (Bi p1) x=d2;generalize Bp x p0=d3;generalize Bp x p1=d4;generalize Bp x p2=d5;generalize Bp x p3=d6;have e4:((21:Int) == 16)=false:=rfl;rw[e4]
 cases d1 <;> cases d2 <;> cases d3 <;> cases d4 <;> cases d5 <;> cases d6 <;> rfl
theorem Ol {l l':List Z8}(h:∀x,x∈l↔x∈l') (x:Z8):Dc l x=Dc l' x:=by
 rw[Bool.eq_iff_iff,Dh,Dh];exact h x
theorem V3 {U:List Z8}{g mb mf bp op c1 c2:Nat}{s:Z8}{c:Z8->Nat}{S:Z8->Bool}(u:FrameMode) (w:World) (h1:w.cell? ⟨c1,0,none⟩=some (.pointer (some ⟨g,0,none⟩))) (h2:w.cell? ⟨c2,0,none⟩=some (.pointer (some ⟨bp,op,none⟩))) (h3:w.cell? ⟨bp,op+1,none⟩=some (.string s)) (hS:Fp U w g mb mf (fun x=>c x+(if s=x then 1 else 0)) S) (hU:U.length<maxLen) (hs:s∈U/\s.size<=maxLen) (hc:c s+1<=9000000000000000000)
  (hn:(c1≠mb/\c1≠mf)/\(c2≠mb/\c2≠mf)/\bp≠mb/\bp≠mf) :
  CallsD Tryz.prog 210 #[.pointer (some ⟨c1,0,none⟩),.pointer (some ⟨c2,0,none⟩)] u w fun e u' w'=>u'=u/\(e=.returned (.tuple #[])/\Fp U w' g mb mf c S/\Ad (fun x=>x=mb\/x=mf) w w'):=by
 obtain⟨v1,hH⟩:∃v1,v1=c s+1:=⟨_,rfl⟩;obtain⟨v2,hI⟩:∃v2,v2=c s:=⟨_,rfl⟩;have hB:=hS.later (Below.refl w.heap.size w).drew;have lk:(Instr.lookup 185 (.map (some mb)) (.string s) false).run Tryz.prog w.drew=.ok (.int .i64 (v1:Int)) w.drew:=by
  have h:=hB.look s hs.2;rw[if_pos rfl,<-hH]at h;exact h
 have LK:=Hd lk;have hM:wrap64 ((v1:Int) - 1)=(v2:Int):=by rw[J0 (by omega) (by omega)];omega
 have vr3:IntKind.i64.wrap ((v1:Int) - 1)=(v2:Int):=(Hz _).trans hM;obtain⟨w3,hC,hG,hF⟩:=hB.put hU s hs.1 hs.2 v2;have hJ:=Hd hC;have hD:Z9 (Ad (fun x=>x=mb\/x=mf) w w3):=Hd ((Ad.of_below (Below.refl w.heap.size w).drew).trans hF fun x h=>.inl (.inl h));have hE:Z9 (Fp U w3 g mb mf c S):=Hd (hG.same (fun x=>by
  by_cases e:s=x
  ·subst e;rw[if_pos rfl];exact hI
  ·rw[if_neg e,if_neg e];rfl) fun _=>rfl)
 have HC:Z9 (∀wx,Ad (fun x=>x=mb\/x=mf) w wx->Fp U wx g mb mf (fun x=>c x+(if s=x then 1 else 0)) S\/Fp U wx g mb mf c S->wx.cell? ⟨c1,0,none⟩=some (.pointer (some ⟨g,0,none⟩))/\wx.cell? ⟨c2,0,none⟩=some (.pointer (some ⟨bp,op,none⟩))/\wx.cell? ⟨bp,op+1,none⟩=some (.string s)/\wx.cell? ⟨g,0,none⟩=some (.map (some mb))):=Hd fun wx hx hL=>⟨hx.cell (fun e=>e.elim hn.1.1 hn.1.2) h1,hx.cell (fun e=>e.elim hn.2.1.1 hn.2.1.2) h2,hx.cell (fun e=>e.elim hn.2.2.1 hn.2.2.2) h3,hL.elim (fun h=>h.cell.1) (fun h=>h.cell.1)⟩;have hd:=HC.o _ (Ad.of_below (Below.refl w.heap.size w).drew) (.inl hB);have HD:=Hd hd;clear h1 h2 h3 hS hU hs hc hn hH hI hB lk hC hG hF hd
 go_enter_d Tryz.func210,Tryz.ntmps210
 refine wp_region_held_drew (S:=(fun w'=>w'.cell? ⟨c1,0,none⟩=some (.pointer (some ⟨g,0,none⟩))/\w'.cell? ⟨c2,0,none⟩=some (.pointer (some ⟨bp,op,none⟩))/\w'.cell? ⟨bp,op+1,none⟩=some (.string s)/\w'.cell? ⟨g,0,none⟩=some (.map (some mb)))) (by kernel_rfl) HD.o (fun hA=>?_);refine Ab.s [0,1,2,3,4,5,6,7] ?_
 iterate 8 (refine Ab.k (so rfl) hA ?_;try simp only[Act.put,Bd,Be,Bf])
 refine Ab.d ?_;have lk:=LK.o;refine wpAnyH_ready (rs:=[8]) (by kernel_rfl) (by simp) ?_;refine AllReadyH.cons (sd (some 10) rfl) (fun Kx hK=>?_) AllReadyH.nil;go_simp;clear lk;refine hK.out _ _ (HD.o) (fun hA=>?_);clear hK Kx;try simp only[Act.put,Bd,Be,Bf]
 refine Ab.s [9] ?_;refine Ab.k (so rfl) hA ?_;try simp only[Act.put,Bd,Be,Bf]
 refine Ab.d ?_;have hC:=hJ.o;refine wpAnyH_ready (rs:=[10]) (by kernel_rfl) (by simp) ?_;refine AllReadyH.cons (sd none rfl) (fun Kx hK=>?_) AllReadyH.nil;go_simp;clear hC;refine hK.out _ _ (HC.o _ hD.o (.inr hE.o)) (fun hA=>?_);clear hK Kx;try simp only[Act.put,Bd,Be,Bf]
 refine wpAnyH_done (by kernel_rfl) ?_ _;clear hA
 go_end0
 first|exact⟨hE.o,hD.o⟩|exact⟨rfl,hE.o,hD.o⟩
theorem Jb9 {M T c l a b e f:Nat}(h:c+(1+(a+(b+(e+f))))*M<=T) (hl:l<=b) (hM:1<=M):c+1+l<=T - e*M/\e*M<=T:=by
 rw[Nat.add_mul,Nat.add_mul,Nat.add_mul,Nat.add_mul,Nat.one_mul]at h;have hb:b<=b*M:=Nat.le_mul_of_pos_right _ hM;generalize a*M=a1 at h;generalize b*M=b1 at h hb;generalize e*M=e1 at h ⊢;generalize f*M=f1 at h;omega
theorem Rs {M T c a b x:Nat}(h:c+a*M<=T) (hx:x+1<=a) (hb:b<=1) (hM:1<=M):c+b+x*M<=T:=by
 have h2:=Nat.mul_le_mul_right M hx;rw[Nat.add_mul,Nat.one_mul]at h2;generalize a*M=a1 at h h2;generalize x*M=x1 at h2 ⊢;omega
theorem Pm {s:Shp}{t:Z8}{n:Int}{np nf nv:Nat}(h:Ao s t n np nf nv=true):(s.f=false->nf=0)/\(s.v=false->nv=0)/\(s.hi=0->np=0):=by
 unfold Ao at h;simp only[Bool.and_eq_true,Bool.not_eq_true',Bool.or_eq_false_iff,Bool.or_eq_true,decide_eq_true_eq,beq_iff_eq]at h;obtain⟨⟨⟨⟨h1,h2⟩,h3⟩,h4⟩,h5,h6⟩:=h;refine⟨fun e=>?_,fun e=>?_,fun e=>by omega⟩
 ·rw[e]at h3;have:decide (0<nf)=false:=by simpa using h3
  have:=of_decide_eq_false this;omega
 ·rw[e]at h4;have:decide (0<nv)=false:=by simpa using h4
  have:=of_decide_eq_false this;omega
theorem D5 {k:Int}{t:Z8}{n:Int}{ps:List Ty}{fs:Bx}{vs:Bt}(h:Aj (.mk k t n ps fs vs)=true):(k≠14->fs.length=0)/\(k≠13->vs.length=0)/\(k=14->ps.length=0)/\(k=22->ps.length=0):=by
 obtain⟨h1,h2,h3⟩:=Pm (Dg h);exact⟨fun e=>h1 (Vb e),fun e=>h2 (Ly e),fun e=>h3 (by subst e;rfl),fun e=>h3 (by subst e;rfl)⟩
theorem K6 {t:Ty}(h:Ea t=true):Aj t=true/\Am t<=4096:=by
 unfold Ea at h;simp only[Bool.and_eq_true,decide_eq_true_eq]at h;exact⟨h.2,h.1⟩
structure Jd0 (K:Nat->Prop) (mb mf bp op:Nat) (w:World) (k:Int) (s:Z8) (n:Int) (ps:List Ty) (fs:Bx) (vs:Bt) (A:Option Addr) (d:Nat) (A2:Option Addr) (d2:Nat) (A3:Option Addr) (d3:Nat):Prop where
 HX:Z9 (∀wx,Ad (fun x=>x=mb\/x=mf) w wx->(wx.cell? ⟨bp,op,none⟩=some (.int .i64 k)/\wx.cell? ⟨bp,op+1,none⟩=some (.string s)/\wx.cell? ⟨bp,op+2,none⟩=some (.int .i64 n)/\wx.cell? ⟨bp,op+3,none⟩=some (.slice A ps.length d)/\wx.cell? ⟨bp,op+4,none⟩=some (.slice A2 fs.length d2)/\wx.cell? ⟨bp,op+5,none⟩=some (.slice A3 vs.length d3)))
 HP:Z9 (∀wx,Ad (fun x=>x=mb\/x=mf) w wx->Bk K wx ps A d)
 HF:Z9 (∀wx,Ad (fun x=>x=mb\/x=mf) w wx->Dt K wx fs A2 d2)
 HV:Z9 (∀wx,Ad (fun x=>x=mb\/x=mf) w wx->Da K wx vs A3 d3)
 HT:Z9 (s.size<=1000000000000000)
theorem P0 {K:Nat->Prop}{mb mf bp op:Nat}{w:World}{k:Int}{s:Z8}{n:Int}{ps:List Ty}{fs:Bx}{vs:Bt}(ha:De K w (.mk k s n ps fs vs) bp op) (hA:bp≠mb/\bp≠mf) (hK:∀x,K x->x<w.heap.size/\x≠mb/\x≠mf):∃A d A2 d2 A3 d3,Jd0 K mb mf bp op w k s n ps fs vs A d A2 d2 A3 d3:=by
 obtain⟨cs,h1,h2⟩:=ha;obtain⟨A,d,A2,d2,A3,d3,rfl,ht,hL,hF,hV⟩:=h2.inv;simp only[Az]at h1;have hk:∀x,K x->¬ (x=mb\/x=mf)/\K x:=fun x hx=>⟨fun e=>e.elim (hK x hx).2.1 (hK x hx).2.2,hx⟩;have hb:¬ (bp=mb\/bp=mf):=fun e=>e.elim hA.1 hA.2;exact⟨A,d,A2,d2,A3,d3,Hd fun wx hx=>⟨hx.cell hb (h1 0 _ rfl),hx.cell hb (h1 1 _ rfl),hx.cell hb (h1 2 _ rfl),hx.cell hb (h1 3 _ rfl),hx.cell hb (h1 4 _ rfl),hx.cell hb (h1 5 _ rfl)⟩,Hd fun wx hx=>hL.but hx hk,Hd fun wx hx=>hF.but hx hk,Hd fun wx hx=>hV.but hx hk,Hd ht⟩
theorem G5 {x:Z8}{cut:Nat->Bool}(h:∀i,cut i=false):∀(l:List Ty) (j:Nat),Dn x cut j l=Gy x l
 | [],_=>rfl
 | p :: l,j=>by
  rw[Dn,G5 h l (j+1),h j];rfl
theorem Ge (vs:Bt) (x:Z8):Dc (vs.map (·.1)) x=E9 vs x:=by
 unfold Dc E9;rw[List.any_map];rfl
theorem Zq {x:Z8}{k:Int}{s:Z8}{n:Int}{ps:List Ty}{fs:Bx}{vs:Bt}(hA:k≠16) (hB:k≠20) (hC:k≠21) (h:fs.length=0\/vs.length=0):Bp x (.mk k s n ps fs vs)=((!Dc (vs.map (·.1)) x && (Gy x ps || Gp x vs)) || Jc x fs):=by
 have e16:(k == 16)=false:=beq_eq_false_iff_ne.2 hA;have e20:(k == 20)=false:=beq_eq_false_iff_ne.2 hB;have e21:(k == 21)=false:=beq_eq_false_iff_ne.2 hC;rw[Dq,G5 (fun i=>by unfold Cz;rw[e20,e21];rfl),e16,Ge];rcases h with h|h
 ·obtain rfl:=List.eq_nil_of_length_eq_zero h;have e:Jc x ([]:Bx)=false:=rfl;rw[e]
  cases E9 vs x <;> cases Gp x vs <;> cases Gy x ps <;> rfl
 ·obtain rfl:=List.eq_nil_of_length_eq_zero h;have e:Gp x ([]:Bt)=false:=rfl;have e2:E9 ([]:Bt) x=false:=rfl;rw[e,e2]
  cases Gy x ps <;> cases Jc x fs <;> rfl
theorem Rk (x:Z8) {l:Bt}{i:Nat}(h:i<l.length):Gp x (l.take (i+1))=(Gp x (l.take i) || Gy x (l[i]'h).2):=by
 unfold Gp;rw[List.take_succ_eq_append_getElem h,List.any_append];simp
theorem Ri (x:Z8) {l:Bx}{i:Nat}(h:i<l.length):Jc x (l.take (i+1))=(Jc x (l.take i) || Bp x (l[i]'h).2.2):=by
 unfold Jc;rw[List.take_succ_eq_append_getElem h,List.any_append];simp
theorem Iq:∀ {l:Bt}{v:Z8×List Ty},v∈l->Au v.2<=Bl l
 | a :: l,v,h=>by
  have e:Bl (a :: l)=Au a.2+Bl l:=rfl;rw[e];rcases List.mem_cons.1 h with rfl|h
  ·omega
  ·have:=Iq h;omega
theorem Jq {k:Int}{s:Z8}{n:Int}{ps:List Ty}{fs:Bx}{vs:Bt}(h:Aj (.mk k s n ps fs vs)=true):∀v∈vs,∀b∈v.2,Aj b=true:=by
 rw[Ay,Bool.and_eq_true,Bool.and_eq_true,Bool.and_eq_true]at h;obtain⟨⟨⟨-,hB⟩,hA⟩,-⟩:=h;intro v hv b hb;obtain⟨i,hi,rfl⟩:=List.getElem_of_mem hv;have hk:k=13:=by
  by_cases e:k=13
  ·exact e
  ·have:=(Pm hB).2.1 (Ly e);omega
 have hC:Eo (Dj vs Aj)=true:=by
  subst hk;unfold Bs at hA;simpa using hA
 unfold Eo at hC;have h2:=List.all_eq_true.1 hC i (List.mem_range.2 (by unfold Dj;rw[List.length_map];exact hi));unfold okV Dj at h2;rw[List.getElem?_map,List.getElem?_eq_getElem hi]at h2;simp only[Option.map_some,Bool.and_eq_true,List.all_eq_true,id_eq]at h2;exact h2.1.2 _ (List.mem_map_of_mem hb)
theorem Xp {k:Int}{s:Z8}{n:Int}{ps:List Ty}{fs:Bx}{vs:Bt}(aD:k≠16) (aE:k≠20) (aF:k≠21) (hp:∀p∈ps,L6 p) (hf:∀f∈fs,L6 f.2.2) (hv:∀v∈vs,∀b∈v.2,L6 b):L6 (.mk k s n ps fs vs):=by
 intro K U g mb mf w bp op c S ha bD hK hS hU bB hc kJ bM;obtain⟨A,d,A2,d2,A3,d3,HX,HP,HF,HV,HT⟩:=P0 ha bD hK;obtain⟨l1,l2,l3,l4⟩:=D5 kJ;obtain⟨v1,v2,v3,v4⟩:=Fz bM;have hQ:=Jq kJ;have bF:=Bu k s n ps fs vs;have hZ:=Hd v1;have aA:=Hd v2;have aB:=Hd v3;have aC:=Hd v4;have bQ:=Hd hQ;have HK:=Hd hK;have HS:=Hd hS;have HU:=Hd hU;have kZ:=Hd bB;have HC:=Hd hc;have aY:=Hd kJ;have kP:=Hd bF;have bW:=Hd hp;have bR:=Hd hf;have bZ:=Hd hv;have kV:Z9 (k≠13->vs.length=0):=Hd l2;have kW:Z9 (fs.length=0\/vs.length=0):=Hd (by by_cases h:k=14;exact .inr (l2 (by omega));exact .inl (l1 h));have e16:(k == 16)=false:=beq_eq_false_iff_ne.2 aD;have e20:(k == 20)=false:=beq_eq_false_iff_ne.2 aE;have e21:(k == 21)=false:=beq_eq_false_iff_ne.2 aF;have kR:=Hd aD;have kS:=Hd aE;have kT:=Hd aF;obtain⟨x0,-,-,-,-,-⟩:=HX.o _ (Ad.refl _ _);clear ha bD hK hS hU bB hc kJ bM l1 l2 l3 l4 v1 v2 v3 v4 hQ bF hp hf hv aD aE aF;go_enter Tryz.func153,Tryz.ntmps153
 go_upto_if 48 with fail
 clear x0
 go_cut [4] from 9 (fun nv wx=>∃AN cN,nv=.slice AN vs.length cN/\Cg wx (vs.map (·.1)) AN/\(∀b o,AN=some ⟨b,o,none⟩->w.heap.size<=b)/\Below w.heap.size w wx)
 case first=>
  by_cases kA:k=13
  ·have f13:(k == 13)=true:=by simp[kA]
   rw[f13];clear kA f13;obtain⟨i0,cG,cK,cL,cM⟩:=Eg Hs;obtain⟨-,-,-,-,-,x5⟩:=HX.o _ (Ad.refl _ _);go_wp2_with fail;clear x5
   go_loopw [4,54] (fun nv v wr=>∃i:Nat,i<=vs.length/\v=.int .i64 i/\Du w.heap.size wr nv ((vs.take i).map (·.1))/\Below w.heap.size w wr) (fun _ v _=>vs.length - (intOf v).toNat)
   case atStart=>exact⟨0,Nat.zero_le _,rfl,by exact⟨rfl,.inl ⟨rfl,rfl⟩⟩,Below.refl _ _⟩
   case round=>
    obtain⟨i,hi,rfl,hD,hb⟩:=hrel;have kF:=hZ.o;have hR:((vs.take i).map (·.1)).length=i:=(by rw[List.length_map,List.length_take];omega);obtain⟨A4,c4,rfl,-⟩:=hD.list (by rw[hR];omega);rw[hR];by_cases hB:i<vs.length
    ·have t1:decide ((i:Int)<(vs.length:Int))=true:=(by simp;omega);have hL:wrap64 ((i:Int)+1)=((i+1:Nat):Int):=Ba (by omega);have HM:=Hd (Bg hB);have hN:Z9 (i+1<=vs.length):=Hd hB;obtain⟨vb,vo,hA,aH,hH⟩:=(HV.o wr (Ad.of_below hb)).at (Nat.lt_of_le_of_lt (Nat.zero_le i) hB);subst hA;obtain⟨B',d',aT,hV,kE,-⟩:=hH i hB;have hF:(vs.take (i+1)).map (·.1)=(vs.take i).map (·.1)++[(vs[i]'hB).1]:=(by rw[List.take_succ_eq_append_getElem hB,List.map_append];rfl);generalize vs[i]'hB=vv at aT hV kE hF;obtain⟨nm,l⟩:=vv;dsimp only at aT hV kE hF;obtain⟨vq,aS⟩:∃x,x=wr.heap.size:=⟨_,rfl⟩;obtain⟨wb,kK⟩:∃x,x=wr.alloc (.cells #[.string nm,.slice B' l.length d'] 62):=⟨_,rfl⟩;have kC:Below wr.heap.size wr wb:=(by rw[kK];exact (Below.refl _ _).alloc (Nat.le_refl _) _);have bN:wb.heap[vq]?=some (.cells #[.string nm,.slice B' l.length d'] 62 (0,0)):=(by rw[kK,aS];exact heap_alloc_new wr _);obtain⟨wd,kL⟩:∃x,x=wb.alloc (.cells #[.string nm] 9):=⟨_,rfl⟩;have aK:Below wb.heap.size wb wd:=(by rw[kL];exact (Below.refl _ _).alloc (Nat.le_refl _) _);have bO:wd.heap[wb.heap.size]?=some (.cells #[.string nm] 9 (0,0)):=(by rw[kL];exact heap_alloc_new wb _);have kO:=Hd (hb.trans ((kC.trans (aK.mono kC.size)).mono hb.size));have hY:Z9 (wd.ownsRow w.heap.size 9 1 (.slice A4 i c4) i (((vs.take i).map (·.1)).map .string)):=Hd (by
      have h:=hD.later (kC.trans (aK.mono kC.size));unfold Du at h;rw[hR]at h;exact h)
     have cD:=Hd bN;have cE:=Hd bO;have cB:=Hd kK;have cC:=Hd kL;have cA:=Hd aS;have hI:=Hd hF;have bT:=Hd hR;clear hi hD hb kF hR hH aH kE hF aS kK kC bN kL aK bO;have i1:(0:Int)<=(i:Int):=(by omega);have i2:(i:Int)<(vs.length:Int):=(by omega);go_upto_region 13 with fail
     rw[<-cB.o,<-cA.o];clear aT hV;have b0:wb.cell? ⟨vq,0,none⟩=some (.string nm):=(by rw[Ch cD.o];rfl);go_wp2_with (at_builtin;refine wpList_plain rfl fun Kx hK=>?_;rw[<-cC.o];go_loud (refine Cb _ _ 46 rfl w.heap.size 9 i0 (.string ⟨#[]⟩) 1 16 Tryz.underlying46 cG cK cL cM rfl (by decide) _ _ _ rfl hY.o ⟨wb.heap.size,0,none⟩ 1 1 [.string nm] rfl rfl ?a0 ?a1 ?a2 ?a3 ?a4 ?_))
     case a0=>
      intro j u hj;have e2:((⟨wb.heap.size,0,none⟩:Addr).add j)=⟨wb.heap.size,j,none⟩:=by unfold Addr.add;by_cases h0:j=0 <;> simp[h0]
      (try rw[e2])
      rw[Ch cE.o];simpa using hj
     case a1=>
      first
      | rfl
      | (intro u hu;simp only[List.mem_cons,List.not_mem_nil,or_false]at hu;rw[hu];rfl)
     case a2=>have h1:=hN.o;have h2:=hZ.o;unfold maxLen;omega
     case a3=>have h1:=hN.o;have h2:=hZ.o;omega
     case a4=>exact kO.o.size
     intro v5 w5 hJ bI _ _;refine hK _ _ ?_;have bV:Z9 (Du w.heap.size w5 v5 ((vs.take (i+1)).map (·.1))):=Hd (by
      unfold Du;have e:((vs.take (i+1)).map (·.1)).length=i+1:=(by rw[hI.o,List.length_append,bT.o];rfl);have h:=hJ;rw[e,hI.o,List.map_append];simp only[List.map_take,List.map_map,List.map_cons,List.map_nil]at h ⊢;exact h)
     have bP:Z9 (Below w.heap.size w w5):=Hd (kO.o.grown bI kO.o.size fun k hk=>(hY.o.lt k hk).1);clear hK Kx hJ bI b0;go_wp2_with fail;refine⟨⟨i+1,hN.o,by first|rfl|rw[hL],bV.o,bP.o⟩,?_⟩;first|exact HM.o|(rw[hL];exact HM.o)
    ·have t1:decide ((i:Int)<(vs.length:Int))=false:=(by simp;omega);obtain rfl:i=vs.length:=by omega
     rw[List.take_length]at hD;simp only[List.length_map]at hD;have bJ:∃AN cN,(Value.slice A4 vs.length c4)=.slice AN vs.length cN/\Cg wr (vs.map (·.1)) AN/\(∀b o,AN=some ⟨b,o,none⟩->w.heap.size<=b)/\Below w.heap.size w wr:=by
      obtain⟨AN,cN,e1,e2⟩:=hD.list (by rw[List.length_map];omega);rw[List.length_map]at e1;refine⟨AN,cN,e1,e2,fun b o e=>?_,hb⟩;rw[e1,e]at hD;exact (World.ownsRow.lt hD b rfl).1
     have kQ:=Hd bJ;clear hi hB hD hb kF hR bJ;go_wp2_with fail
     go_meet
     exact kQ.o
  ·have f13:(k == 13)=false:=beq_eq_false_iff_ne.2 kA;have hT:=kV.o kA;have e0:vs=[]:=List.eq_nil_of_length_eq_zero hT;have kQ:Z9 (∃AN cN,(Value.slice none 0 0)=.slice AN vs.length cN/\Cg w (vs.map (·.1)) AN/\(∀b o,AN=some ⟨b,o,none⟩->w.heap.size<=b)/\Below w.heap.size w w):=Hd ⟨none,0,by rw[hT],⟨0,0,fun h=>by rw[List.length_map,hT]at h;omega,by rw[List.length_map,hT];omega,fun i hi=>by rw[List.length_map,hT]at hi;omega⟩,(fun b o e=>by cases e),Below.refl _ _⟩;clear kA hT e0;go_wp2_with fail
   go_meet
   exact kQ.o
 case rest=>
  obtain⟨AN,cN,rfl,bK,bC,aJ⟩:=hcut;obtain⟨wv,cJ⟩:∃x:World,x=wc:=⟨_,rfl⟩;subst cJ;have bU:=Hd HS.o.lt;have kH:Z9 (Ad (fun x=>x=mb\/x=mf) w wv):=Hd (Ad.of_below aJ);have kG:Z9 (∀b o,AN=some ⟨b,o,none⟩->b≠mb/\b≠mf):=Hd fun b o e=>by have h1:=bC b o e;have h2:=bU.o;omega
  have aZ:Z9 (∀wx,Ad (fun x=>x=mb\/x=mf) wv wx->Cg wx (vs.map (·.1)) AN):=Hd fun wx hx=>bK.but hx fun b o e h=>h.elim (kG.o b o e).1 (kG.o b o e).2;have bY:=Hd (HS.o.later aJ);have kX:Z9 ((vs.map (·.1)).length=vs.length):=Hd (List.length_map ..);have bA:Z9 (∀x∈vs.map (·.1),x∈U/\x.size<=maxLen):=Hd fun x hx=>by
   obtain⟨v,hv,rfl⟩:=List.mem_map.1 hx;refine⟨HU.o _ (X1 hv),?_⟩;obtain⟨i,hi,rfl⟩:=List.getElem_of_mem hv;obtain⟨vb,vo,-,-,hH⟩:=(HV.o w (Ad.refl _ _)).at (Nat.lt_of_le_of_lt (Nat.zero_le i) hi);obtain⟨_,_,_,_,kE,_⟩:=hH i hi;exact Nat.le_trans kE (by decide)
  obtain⟨BB,cF⟩:∃BB,BB=9000000000000000000 - Am (.mk k s n ps fs vs)*1000000000000002+1000000000000002:=⟨_,rfl⟩;have aU:Z9 (∀x,c x+cI (vs.map (·.1)) x<=BB):=Hd fun x=>by
   have h1:=HC.o x;have h2:=Uj (vs.map (·.1)) x;have h3:=kX.o;have h4:=hZ.o;omega
  have aV:Z9 (BB<=9000000000000000000):=Hd (by have h1:=HC.o s;have h2:=Jn (.mk k s n ps fs vs);omega);have aW:Z9 (∀p:Ty,Am p+1<=Am (.mk k s n ps fs vs)->BB+Am p*1000000000000002<=9000000000000000000):=Hd fun p hp=>by
   have h1:=HC.o s;have h2:=Nat.mul_le_mul_right 1000000000000002 hp;rw[Nat.add_mul]at h2;omega
  have kU:Z9 (∀wx,Ad (fun x=>x=mb\/x=mf) w wx->∀x,K x->x<wx.heap.size/\x≠mb/\x≠mf):=Hd fun wx hx x h=>⟨Nat.lt_of_lt_of_le (HK.o x h).1 hx.size,(HK.o x h).2⟩;have hO:=Ep (cN:=cN) (aZ.o wv (Ad.refl _ _)) kG.o (HP.o wv kH.o) (kU.o wv kH.o) bY.o bA.o kZ.o aU.o aV.o (fun p hp=>⟨fun x hx=>HU.o x (Jk hp hx),⟨D9 aY.o p hp,aB.o p hp⟩,aW.o p (by have h1:=Fe hp;have h2:=kP.o;omega)⟩) bW.o;rw[kX.o]at hO;have KW:=Hd hO;obtain⟨-,-,-,x3,-,-⟩:=HX.o _ kH.o;clear bK bC aJ cF hO;go_wp2_with fail;refine KW.o.mono ?_;rintro e w3 ⟨rfl,bL,aI⟩;have bX:=Hd bL;have kM:Z9 (Ad (fun x=>x=mb\/x=mf) wv w3):=Hd aI;have hX:Z9 (Ad (fun x=>x=mb\/x=mf) w w3):=Hd (kH.o.trans aI fun x h=>.inl h);clear bL aI KW x3;obtain⟨-,-,-,-,-,x5⟩:=HX.o _ hX.o;go_wp2_with fail;clear x5
  go_loopw [76] (fun v wr=>∃i:Nat,i<=vs.length/\v=.int .i64 i/\Fp U wr g mb mf c (fun x=>S x || (decide (c x=0) && (!Dc (vs.map (·.1)) x && (Gy x ps || Gp x (vs.take i)))))/\Ad (fun x=>x=mb\/x=mf) w3 wr) (fun v _=>vs.length - (intOf v).toNat)
  case atStart=>exact⟨0,Nat.zero_le _,rfl,bX.o.same (fun _=>rfl) (fun x=>by simp[Gp]),Ad.refl _ _⟩
  case round=>
   obtain⟨i,hi,rfl,hG,hE⟩:=hrel;have kF:=hZ.o;have hM:Z9 (Ad (fun x=>x=mb\/x=mf) w wr):=Hd (hX.o.trans hE fun x h=>.inl h);have aX:Z9 (Ad (fun x=>x=mb\/x=mf) wv wr):=Hd (kM.o.trans hE fun x h=>.inl h);have hW:=Hd hE;by_cases hB:i<vs.length
   ·have t1:decide ((i:Int)<(vs.length:Int))=true:=(by simp;omega);have hL:wrap64 ((i:Int)+1)=((i+1:Nat):Int):=Ba (by omega);have HM:=Hd (Bg hB);have hN:Z9 (i+1<=vs.length):=Hd hB;obtain⟨vb,vo,hA,aH,hH⟩:=(HV.o wr hM.o).at (Nat.lt_of_le_of_lt (Nat.zero_le i) hB);obtain⟨-,-,-,-,-,x5⟩:=HX.o _ hM.o;subst hA;obtain⟨B',d',-,hV,-,aO⟩:=hH i hB;have hC:=List.getElem_mem hB;have hF:=fun x=>Rk x hB;have hQ:=bQ.o _ hC;have aP:=aA.o _ hC;have aR:=bZ.o _ hC;have bG:Au (vs[i]'hB).2<=Bl vs:=Iq hC;have hP:∀b∈(vs[i]'hB).2,∀x∈Ed b,x∈U:=fun b hb x hx=>HU.o x (Qb hC hb hx);generalize (vs[i]'hB).2=l at hV aO hF hQ aP aR bG hP;have hO:=Ep (cN:=cN) (aZ.o wr aX.o) kG.o aO (kU.o wr hM.o) hG bA.o kZ.o aU.o aV.o (fun p hp=>⟨hP p hp,⟨hQ p hp,aP p hp⟩,aW.o p (by have h1:=Fe hp;have h2:=kP.o;omega)⟩) aR;rw[kX.o]at hO;have KW:=Hd hO;have hI:=Hd hF;have i1:(0:Int)<=(i:Int):=(by omega);have i2:(i:Int)<(vs.length:Int):=(by omega);clear hi hG hE kF hH aH aO hC hF hQ aP aR bG hP hO;go_wp2_with fail;refine KW.o.mono ?_;rintro e w4 ⟨rfl,kD,kB⟩;have kY:Z9 (Fp U w4 g mb mf c (fun x=>S x || (decide (c x=0) && (!Dc (vs.map (·.1)) x && (Gy x ps || Gp x (vs.take (i+1))))))):=Hd (kD.same (fun _=>rfl) fun x=>by
     rw[hI.o];dsimp only;generalize decide (c x=0)=d1;generalize Dc (vs.map (·.1)) x=d2;generalize Gy x ps=d3;generalize Gp x (vs.take i)=d4;generalize Gy x l=d5
     cases S x <;> cases d1 <;> cases d2 <;> cases d3 <;> cases d4 <;> cases d5 <;> rfl)
    have kN:Z9 (Ad (fun x=>x=mb\/x=mf) w3 w4):=Hd (hW.o.trans kB fun x h=>.inl h);clear kD kB KW hI x5 hV;go_wp2_with fail;refine⟨⟨i+1,hN.o,by first|rfl|rw[hL],kY.o,kN.o⟩,?_⟩;first|exact HM.o|(rw[hL];exact HM.o)
   ·have t1:decide ((i:Int)<(vs.length:Int))=false:=(by simp;omega);obtain rfl:i=vs.length:=by omega
    rw[List.take_length]at hG;have kI:=Hd hG;obtain⟨-,-,-,-,x4,-⟩:=HX.o _ hM.o;have bS:Z9 (fs.length<=1000000000000000):=Hd (HF.o _ hM.o).shortF;clear hi hB hG hE kF;go_wp2_with fail;clear x4
    go_loopw [96] (fun v wy=>∃(i:Nat) (wo:World),i<=fs.length/\v=.int .i64 i/\wo=wy/\Fp U wy g mb mf c (fun x=>S x || (decide (c x=0) && ((!Dc (vs.map (·.1)) x && (Gy x ps || Gp x vs)) || Jc x (fs.take i))))/\Ad (fun x=>x=mb\/x=mf) w wy) (fun v _=>fs.length - (intOf v).toNat)
    case atStart=>exact⟨0,_,Nat.zero_le _,rfl,rfl,kI.o.same (fun _=>rfl) (fun x=>by simp[Jc]),hM.o⟩
    case round=>
     clear kI hM aX hW;obtain⟨i,wo,hi,rfl,cH,hG,hE⟩:=hrel;subst cH;have bH:=bS.o;have hW:=Hd hE;by_cases hB:i<fs.length
     ·have t1:decide ((i:Int)<(fs.length:Int))=true:=(by simp;omega);have hL:wrap64 ((i:Int)+1)=((i+1:Nat):Int):=Ba (by omega);have HM:=Hd (Bg hB);have hN:Z9 (i+1<=fs.length):=Hd hB;obtain⟨fb,fo,hA,aG,hH⟩:=(HF.o wo hE).at (Nat.lt_of_le_of_lt (Nat.zero_le i) hB);obtain⟨-,-,-,-,x4,-⟩:=HX.o _ hE;subst hA;obtain⟨-,-,-,aN⟩:=hH i hB;have hC:=List.getElem_mem hB;have hF:=fun x=>Ri x hB;have aL:=bR.o _ hC;have hP:∀x∈Ed (fs[i]'hB).2.2,x∈U:=fun x hx=>HU.o x (Qc hC hx);have aM:=It (t:=.mk k s n ps fs vs) aY.o _ hC;have aQ:=aC.o _ hC;have bE:=Ip hC;generalize (fs[i]'hB).2.2=t at aN hF aL hP aM aQ bE;have KW:=Hd (aL K U g mb mf wo fb (fo+i*8+2) c _ aN ⟨(HK.o fb aG).2.1,(HK.o fb aG).2.2⟩ (kU.o wo hE) hG hP kZ.o (fun x=>by
       have h1:=HC.o x;have h2:=Nat.mul_le_mul_right 1000000000000002 (show Am t<=Am (.mk k s n ps fs vs) by rw[kP.o];omega);exact Nat.le_trans (Nat.add_le_add_left h2 _) h1) aM aQ)
      have hI:=Hd hF;have i1:(0:Int)<=(i:Int):=(by omega);have i2:(i:Int)<(fs.length:Int):=(by omega);clear hi hG hE bH hH aG aN hC hF aL hP aM aQ bE;go_wp2_with fail;refine KW.o.mono ?_;rintro e w4 ⟨rfl,kD,kB⟩;have kY:Z9 (Fp U w4 g mb mf c (fun x=>S x || (decide (c x=0) && ((!Dc (vs.map (·.1)) x && (Gy x ps || Gp x vs)) || Jc x (fs.take (i+1)))))):=Hd (kD.same (fun _=>rfl) fun x=>by
       rw[hI.o];dsimp only;generalize decide (c x=0)=d1;generalize (!Dc (vs.map (·.1)) x && (Gy x ps || Gp x vs))=d2;generalize Jc x (fs.take i)=d4;generalize Bp x t=d5
       cases S x <;> cases d1 <;> cases d2 <;> cases d4 <;> cases d5 <;> rfl)
      have kN:Z9 (Ad (fun x=>x=mb\/x=mf) w w4):=Hd (hW.o.trans kB fun x h=>.inl h);clear kD kB KW hI x4;go_wp2_with fail;refine⟨⟨i+1,w4,hN.o,by first|rfl|rw[hL],rfl,kY.o,kN.o⟩,?_⟩;first|exact HM.o|(rw[hL];exact HM.o)
     ·have t1:decide ((i:Int)<(fs.length:Int))=false:=(by simp;omega);obtain rfl:i=fs.length:=by omega
      rw[List.take_length]at hG;have kI:Z9 (Fp U wo g mb mf c (fun x=>S x || (decide (c x=0) && Bp x (.mk k s n ps fs vs)))):=Hd (hG.same (fun _=>rfl) fun x=>by rw[Zq kR.o kS.o kT.o kW.o]);clear hi hB hG hE bH;go_wp2_with fail
      go_end0
      exact⟨rfl,kI.o,hW.o⟩
open Go.RowKit Go.Sort
theorem Te {K:Nat->Prop}{w:World}{t:Ty}{cs:List Value}(hr:Aw K w t cs) (hf:Aj t=true) (hn:(Bi t).length<=1000000000) :
  Calls Tryz.prog 93 #[.agg cs.toArray] w fun e w'=>∃A c,e=.returned (.slice A (Ic (Bi t)).length c)/\Cg w' (Ic (Bi t)) A/\(∀b o,A=some ⟨b,o,none⟩->w.heap.size<=b)/\Below w.heap.size w w':=by
 have kinf:=Zz t;obtain⟨k,s,n,ps,fs,vs⟩:=t;obtain⟨A,c,B,d,C,e0,rfl,-⟩:=hr.inv;simp only[Az]at hr ⊢;obtain⟨w0,hC⟩:∃x,x=w.alloc (.cells #[.int .i64 k,.string s,.int .i64 n,.slice A ps.length c,.slice B fs.length d,.slice C vs.length e0] 26):=⟨_,rfl⟩;obtain⟨w1,hD⟩:∃x,x=w0.alloc (.cells #[.slice none 0 0] 46):=⟨_,rfl⟩;have hI:De K w0 (.mk k s n ps fs vs) w.heap.size 0:=by rw[hC];exact De.box 26 hr
 have hJ:Below w.heap.size w w0:=by rw[hC];exact (Below.refl _ _).alloc (Nat.le_refl _) _
 have hK:Below w0.heap.size w0 w1:=by rw[hD];exact (Below.refl _ _).alloc (Nat.le_refl _) _
 have hL:Ub w0 w1 w0.heap.size []:=⟨.slice none 0 0,by rw[hD];exact heap_alloc_new w0 _,⟨rfl,.inl ⟨rfl,rfl⟩⟩,hK,Nat.le_refl _⟩;have KI:=Hd (kinf K w0 w1 w.heap.size 0 w0.heap.size [] hI hf hL (by simp only[List.length_nil];omega));have hA:=Hd hJ;have hQ:=Hd hC;have HW1:=Hd hD;clear kinf hr hI hJ hK hL hC hD hf;rw[List.nil_append]at KI;generalize Bi (.mk k s n ps fs vs)=l at KI hn ⊢;go_enter Tryz.func93,Tryz.ntmps93;go_upto_region 1 with fail
 rw[<-hQ.o];go_upto_region 2 with fail
 rw[<-HW1.o];go_wp2_with fail;refine KI.o.mono ?_;rintro e w2 ⟨rfl,v,hv,ho,hb,hg⟩;have hE:=Hd (hA.o.trans (hb.mono hA.o.size));have hT:=hA.o.size;rcases ho.of with ⟨rfl,rfl⟩|⟨g,c',rfl,hG,hs⟩
 ·have z0:w2.cell? ⟨w0.heap.size,0,none⟩=some (.slice none 0 0):=Ch hv 0;clear hv ho hb hg;go_wp2_with fail;refine (Jdw _ _ _).mono ?_;rintro e w' ⟨rfl,hw⟩;obtain rfl:=hw.symm;go_wp2_with fail;refine (V1 _ _ _).mono ?_;rintro e w' ⟨rfl,hw⟩;obtain rfl:=hw.symm;go_wp2_with fail;go_ret
  exact⟨none,0,by rw[O2];rfl,by rw[O2];exact⟨0,0,fun h=>absurd h (by simp),by simp,fun i h=>absurd h (by simp)⟩,(fun b o e=>by cases e),hE.o⟩
 ·have z0:w2.cell? ⟨w0.heap.size,0,none⟩=some (.slice (some ⟨g,0,none⟩) l.length c'):=Ch hv 0;have KS:=Hd (Jak hs hG hn);have hP:Z9 (w0.heap.size≠g):=Hd fun e=>by
   obtain⟨cur,h1,_⟩:=hs.blk;rw[<-e,hv]at h1;injection h1 with h1
   injection h1 with _ h1
   exact absurd h1 (by decide)
  have hO:Z9 (w0.heap.size<w2.heap.size):=Hd (Array.getElem?_eq_some_iff.1 hv).1;have hF:=Hd hG;clear hv ho hb hg hs hG;go_wp2_with fail;refine KS.o.mono ?_;rintro e w3 ⟨rfl,hM,hH⟩;have hN:=Hd (hE.o.grown hH hE.o.size fun k hk=>by injection hk with hk;have:=hF.o;have:=hA.o.size;omega);have KC:=Hd (Nq hM hF.o (by rw[Kn];exact hn));have z1:w3.cell? ⟨w0.heap.size,0,none⟩=some (.slice (some ⟨g,0,none⟩) l.length c'):=(World.cell?_of_block (a:=⟨w0.heap.size,0,none⟩) (hH.block w0.heap.size hO.o fun e=>hP.o (by injection e))).trans z0;rw[Xf,Kn]at KC;clear hM hH KS z0;go_wp2_with fail;refine KC.o.mono ?_;rintro e w4 ⟨rfl,hS,hR⟩;have hB:Z9 (Cg w4 (Ic l) (some ⟨g,0,none⟩)/\Below w.heap.size w w4):=Hd ⟨hS.list (show (Ic l).length<=_ from by have:=Kk l;omega),hN.o.trans (hR.mono hA.o.size)⟩;go_wp2_with fail;go_ret
  exact⟨some ⟨g,0,none⟩,c',by unfold Ic;rw[List.length_map];rfl,hB.o.1,(fun b o e=>by injection e with e;injection e with e;have h1:=hF.o;have h2:=hA.o.size;omega),hB.o.2⟩
theorem Pt:L2:=fun K w t cs hr hf hn=>(Te hr hf hn).mono fun e w' h=>by
 obtain⟨A,c,h1,h2,h3,h4⟩:=h;exact⟨Ic (Bi t),A,c,h1,h2,fun x=>W0,Kk _,h3,h4⟩
