import Derived.Test.YtlpfpehegddcfaaGreatDoorMv27
namespace Go.Proofs.YtlpfpehegddcfaaGreatDoor
set_option maxRecDepth 100000
set_option maxHeartbeats 64000000
open Go.RowKit
theorem FilM.to {K:Nat->Prop} {w w':World} {m n n1:Nat} {V:Nat->Value} {h0:V 0=.agg #[.int .i64 0,.string ⟨#[]⟩,.int .i64 0,.slice none 0 0,.slice none 0 0,.slice none 0 0]} {L:List (ByteArray×Ty)} (h:FilM K w m n V h0 L) (hb:ButG (fun x=>x=m+1) w w') (hx:w'.heap[m+1]?=some (.cells #[.map (some m),.int .i64 n1] 69 (0,0))) (hk:∀ x,K x->x≠m+1):FilM K w' m n1 V h0 L:=
 ⟨hx,h.map.keep (hb.block m h.map.lt (by omega)),fun i hi=>by obtain⟨cs,h3,h4⟩:=h.val i hi;exact⟨cs,h3,h4.but hb fun x hx=>⟨hk x hx,hx⟩⟩⟩
def RowP (P:Nat->Prop) (w:World) (q:Nat) (A:Option Addr) (c:Nat) (S:List Ty):Prop:=(S=[]/\A=none/\c=0)\/∃ g,A=some ⟨g,0,none⟩/\q<g/\S.length<=c/\PlT P w g S
theorem RowP.but {P O:Nat->Prop} {w w':World} {q c:Nat} {A:Option Addr} {S:List Ty} (h:RowP P w q A c S) (hb:ButG O w w') (hg:∀ g,q<g->A=some ⟨g,0,none⟩->¬ O g) (hp:∀ x,P x->¬ O x):RowP P w' q A c S:=
 h.imp id fun ⟨g,e,h1,h2,h3⟩=>⟨g,e,h1,h2,h3.but hb (hg g h1 e) hp⟩
theorem RowP.list {P:Nat->Prop} {w:World} {q c:Nat} {A:Option Addr} {S:List Ty} (h:RowP P w q A c S) (hl:S.length<=1000000000000000):ListT (fun x=>P x\/(q<x/\A=some ⟨x,0,none⟩)) w S A c:=by
 rcases h with ⟨rfl,rfl,rfl⟩ | ⟨g,rfl,h1,h2,h3⟩
 ·exact⟨0,0,⟨Nat.le_refl _,Nat.zero_le _,fun _=>rfl,fun h=>absurd h (by simp)⟩,fun i hi=>absurd hi (by simp)⟩
 ·exact (h3.list h2 hl).weak fun x hx=>hx.imp id fun e=>by rw[e];exact⟨h1,rfl⟩
theorem RowP.get {P:Nat->Prop} {w:World} {q c:Nat} {A:Option Addr} {S:List Ty} (h:RowP P w q A c S) (h0:0<S.length):∃ g,A=some ⟨g,0,none⟩/\q<g/\S.length<=c/\PlT P w g S:=by
 rcases h with ⟨rfl,_⟩ | h
 ·exact absurd h0 (by simp)
 ·exact h
def RowQ (P:Nat->Prop) (w:World) (q:Nat) (A:Option Addr) (c:Nat) (S:Bp):Prop:=(S=[]/\A=none/\c=0)\/∃ g,A=some ⟨g,0,none⟩/\q<g/\S.length<=c/\PlF P w g S
theorem RowQ.but {P O:Nat->Prop} {w w':World} {q c:Nat} {A:Option Addr} {S:Bp} (h:RowQ P w q A c S) (hb:ButG O w w') (hg:∀ g,q<g->A=some ⟨g,0,none⟩->¬ O g) (hp:∀ x,P x->¬ O x):RowQ P w' q A c S:=
 h.imp id fun ⟨g,e,h1,h2,h3⟩=>⟨g,e,h1,h2,h3.but hb (hg g h1 e) hp⟩
theorem RowQ.list {P:Nat->Prop} {w:World} {q c:Nat} {A:Option Addr} {S:Bp} (h:RowQ P w q A c S) (hl:S.length<=1000000000000000):ListF (fun x=>P x\/(q<x/\A=some ⟨x,0,none⟩)) w S A c:=by
 rcases h with ⟨rfl,rfl,rfl⟩ | ⟨g,rfl,h1,h2,h3⟩
 ·exact⟨0,0,⟨Nat.le_refl _,Nat.zero_le _,fun _=>rfl,fun h=>absurd h (by simp)⟩,fun i hi=>absurd hi (by simp)⟩
 ·exact (h3.list h2 hl).but (ButG.refl (fun _=>False) w) fun x hx=>⟨id,hx.imp id fun e=>by rw[e];exact⟨h1,rfl⟩⟩
theorem RowQ.get {P:Nat->Prop} {w:World} {q c:Nat} {A:Option Addr} {S:Bp} (h:RowQ P w q A c S) (h0:0<S.length):∃ g,A=some ⟨g,0,none⟩/\q<g/\S.length<=c/\PlF P w g S:=by
 rcases h with ⟨rfl,_⟩ | h
 ·exact absurd h0 (by simp)
 ·exact h
theorem Kj {α:Type} {S l:List α} {i:Nat} (hi:i<l.length) (hl:S.length=l.length) (hd:S.drop i=l.drop i) (u:α):S.take (i+1)=S.take i++[l[i]]/\S.drop (i+1)=l.drop (i+1)/\(S.set i u).length=l.length/\(S.set i u).drop (i+1)=l.drop (i+1)/\(S.set i u).take (i+1)=S.take i++[u]:=by
 have hS:i<S.length:=by omega
 rw[List.drop_eq_getElem_cons hi,List.drop_eq_getElem_cons hS] at hd;injection hd with h1 h2
 refine⟨?_,h2,by rw[List.length_set,hl],?_,?_⟩
 ·rw[List.take_succ_eq_append_getElem hS,h1]
 ·rw[List.drop_set_of_lt (by omega)];exact h2
 ·rw[List.take_succ_eq_append_getElem (by rw[List.length_set];exact hS),List.getElem_set_self,List.take_set_of_le (Nat.le_refl _)]
theorem R3 {α:Type} {S l:List α} {i:Nat} (hi:i<l.length) (hl:S.length=l.length) (hd:S.drop i=l.drop i):S[i]'(by omega)=l[i]:=by
 have hS:i<S.length:=by omega
 rw[List.drop_eq_getElem_cons hi,List.drop_eq_getElem_cons hS] at hd;injection hd with h1 h2
theorem PlT.six {P:Nat->Prop} {w:World} {g i:Nat} {l:List Ty} (h:PlT P w g l) (hi:i<l.length):(∃ v,w.cell? ⟨g,i*6,none⟩=some v)/\(∃ v,w.cell? ⟨g,i*6+1,none⟩=some v)/\(∃ v,w.cell? ⟨g,i*6+2,none⟩=some v)/\(∃ v,w.cell? ⟨g,i*6+3,none⟩=some v)/\(∃ v,w.cell? ⟨g,i*6+4,none⟩=some v)/\∃ v,w.cell? ⟨g,i*6+5,none⟩=some v:=
 ⟨h.cell _ (by omega),h.cell _ (by omega),h.cell _ (by omega),h.cell _ (by omega),h.cell _ (by omega),h.cell _ (by omega)⟩
theorem PlF.six {P:Nat->Prop} {w:World} {g i:Nat} {l:Bp} (h:PlF P w g l) (hi:i<l.length):(∃ v,w.cell? ⟨g,i*8+2,none⟩=some v)/\(∃ v,w.cell? ⟨g,i*8+3,none⟩=some v)/\(∃ v,w.cell? ⟨g,i*8+4,none⟩=some v)/\(∃ v,w.cell? ⟨g,i*8+5,none⟩=some v)/\(∃ v,w.cell? ⟨g,i*8+6,none⟩=some v)/\∃ v,w.cell? ⟨g,i*8+7,none⟩=some v:=
 ⟨h.cell _ (by omega),h.cell _ (by omega),h.cell _ (by omega),h.cell _ (by omega),h.cell _ (by omega),h.cell _ (by omega)⟩
def Lu:Prop:=∀ (K:Nat->Prop) (w:World) (t:Ty) (cs:List Value),RepT K w t cs->Ab t=true->(Aw t).length<=1000000000->Calls Tryz.prog 93 #[.agg cs.toArray] w fun e w'=>∃ (l:List ByteArray) (A:Option Addr) (c:Nat),e=.returned (.slice A l.length c)/\ListS w' l A/\(∀ x,x∈l↔x∈Aw t)/\l.length<=(Aw t).length/\(∀ b o,A=some ⟨b,o,none⟩->w.heap.size<=b)/\Below w.heap.size w w'
theorem Je (x s:ByteArray) (n:Int) (p0 p1 p2 p3:Ty):Bl x (.mk 21 s n [p0,p1,p2,p3] [] [])=(Bl x p0 || (!((n == 1) && decide (s=x)) && (Bl x p1 || ((!Cl (Aw p1) x && Bl x p2) || Bl x p3)))):=by
 rw[Ef];have e1:J1 x []=false:=rfl;have e2:Mj x []=false:=rfl;have e3:Dq [] x=false:=rfl;have c0:C5 21 s n [p0,p1,p2,p3] 0 x=false:=by simp[C5]
 have c1:C5 21 s n [p0,p1,p2,p3] 1 x=((n == 1) && decide (s=x)):=by simp[C5]
 have c2:C5 21 s n [p0,p1,p2,p3] 2 x=(((n == 1) && decide (s=x)) || Cl (Aw p1) x):=by simp[C5,Df]
 have c3:C5 21 s n [p0,p1,p2,p3] 3 x=((n == 1) && decide (s=x)):=by simp[C5]
 rw[e1,e2,e3,Em,Em,Em,Em,Em];simp only[Nat.zero_add,Nat.reduceAdd];rw[c0,c1,c2,c3];generalize ((n == 1) && decide (s=x))=d1;generalize Cl (Aw p1) x=d2;generalize Bl x p0=d3;generalize Bl x p1=d4;generalize Bl x p2=d5;generalize Bl x p3=d6;have e4:((21:Int) == 16)=false:=rfl;rw[e4]
 cases d1 <;> cases d2 <;> cases d3 <;> cases d4 <;> cases d5 <;> cases d6 <;> rfl
theorem Of {l l':List ByteArray} (h:∀ x,x∈l↔x∈l') (x:ByteArray):Cl l x=Cl l' x:=by
 rw[Bool.eq_iff_iff,Cy,Cy];exact h x
theorem Vs {U:List ByteArray} {g mb mf bp op c1 c2:Nat} {s:ByteArray} {c:ByteArray->Nat} {S:ByteArray->Bool} (u:FrameMode) (w:World) (h1:w.cell? ⟨c1,0,none⟩=some (.pointer (some ⟨g,0,none⟩))) (h2:w.cell? ⟨c2,0,none⟩=some (.pointer (some ⟨bp,op,none⟩))) (h3:w.cell? ⟨bp,op+1,none⟩=some (.string s)) (hS:SeS U w g mb mf (fun x=>c x+(if s=x then 1 else 0)) S) (hU:U.length<maxLen) (hs:s∈U/\s.size<=maxLen) (hc:c s+1<=9000000000000000000)
  (hn:(c1≠mb/\c1≠mf)/\(c2≠mb/\c2≠mf)/\bp≠mb/\bp≠mf) :
  CallsD Tryz.prog 210 #[.pointer (some ⟨c1,0,none⟩),.pointer (some ⟨c2,0,none⟩)] u w fun e u' w'=>u'=u/\(e=.returned (.tuple #[])/\SeS U w' g mb mf c S/\ButG (fun x=>x=mb\/x=mf) w w'):=by
 obtain⟨v1,hv1⟩:∃ v1,v1=c s+1:=⟨_,rfl⟩;obtain⟨v2,hv2⟩:∃ v2,v2=c s:=⟨_,rfl⟩;have hsd:=hS.later (Below.refl w.heap.size w).drew;have lk:(Instr.lookup 185 (.map (some mb)) (.string s) false).run Tryz.prog w.drew=.ok (.int .i64 (v1:Int)) w.drew:=by
  have h:=hsd.look s hs.2;rw[if_pos rfl,<-hv1] at h;exact h
 have LK:=Hd lk;have wr3:wrap64 ((v1:Int) - 1)=(v2:Int):=by rw[Jo (by omega) (by omega)];omega
 have vr3:IntKind.i64.wrap ((v1:Int) - 1)=(v2:Int):=(Hp _).trans wr3;obtain⟨w3,hup,hs3,hb3⟩:=hsd.put hU s hs.1 hs.2 v2;have HUP:=Hd hup;have HB3:Hid (ButG (fun x=>x=mb\/x=mf) w w3):=Hd ((ButG.of_below (Below.refl w.heap.size w).drew).trans hb3 fun x h=>.inl (.inl h));have HS3:Hid (SeS U w3 g mb mf c S):=Hd (hs3.same (fun x=>by
  by_cases e:s=x
  ·subst e;rw[if_pos rfl];exact hv2
  ·rw[if_neg e,if_neg e];rfl) fun _=>rfl)
 have HC:Hid (∀ wx,ButG (fun x=>x=mb\/x=mf) w wx->SeS U wx g mb mf (fun x=>c x+(if s=x then 1 else 0)) S\/SeS U wx g mb mf c S->wx.cell? ⟨c1,0,none⟩=some (.pointer (some ⟨g,0,none⟩))/\wx.cell? ⟨c2,0,none⟩=some (.pointer (some ⟨bp,op,none⟩))/\wx.cell? ⟨bp,op+1,none⟩=some (.string s)/\wx.cell? ⟨g,0,none⟩=some (.map (some mb))):=Hd fun wx hx hse=>⟨hx.cell (fun e=>e.elim hn.1.1 hn.1.2) h1,hx.cell (fun e=>e.elim hn.2.1.1 hn.2.1.2) h2,hx.cell (fun e=>e.elim hn.2.2.1 hn.2.2.2) h3,hse.elim (fun h=>h.cell.1) (fun h=>h.cell.1)⟩;have hd:=HC.out _ (ButG.of_below (Below.refl w.heap.size w).drew) (.inl hsd);have HD:=Hd hd;clear h1 h2 h3 hS hU hs hc hn hv1 hv2 hsd lk hup hs3 hb3 hd
 go_enter_d Tryz.func210,Tryz.ntmps210
 refine wp_region_held_drew (S:=(fun w'=>w'.cell? ⟨c1,0,none⟩=some (.pointer (some ⟨g,0,none⟩))/\w'.cell? ⟨c2,0,none⟩=some (.pointer (some ⟨bp,op,none⟩))/\w'.cell? ⟨bp,op+1,none⟩=some (.string s)/\w'.cell? ⟨g,0,none⟩=some (.map (some mb)))) (by kernel_rfl) HD.out (fun hHeld=>?_);refine Plan.start [0,1,2,3,4,5,6,7] ?_
 iterate 8 (refine Plan.tk (so rfl) hHeld ?_;try simp only[Act.put,Ax,Ay,Az])
 refine Plan.done ?_;have lk:=LK.out;refine wpAnyH_ready (rs:=[8]) (by kernel_rfl) (by simp) ?_;refine AllReadyH.cons (sd (some 10) rfl) (fun Kx hK=>?_) AllReadyH.nil;go_simp;clear lk;refine hK.out _ _ (HD.out) (fun hHeld=>?_);clear hK Kx;try simp only[Act.put,Ax,Ay,Az]
 refine Plan.start [9] ?_;refine Plan.tk (so rfl) hHeld ?_;try simp only[Act.put,Ax,Ay,Az]
 refine Plan.done ?_;have hup:=HUP.out;refine wpAnyH_ready (rs:=[10]) (by kernel_rfl) (by simp) ?_;refine AllReadyH.cons (sd none rfl) (fun Kx hK=>?_) AllReadyH.nil;go_simp;clear hup;refine hK.out _ _ (HC.out _ HB3.out (.inr HS3.out)) (fun hHeld=>?_);clear hK Kx;try simp only[Act.put,Ax,Ay,Az]
 refine wpAnyH_done (by kernel_rfl) ?_ _;clear hHeld
 go_end0
 first | exact⟨HS3.out,HB3.out⟩ | exact⟨rfl,HS3.out,HB3.out⟩
theorem Jc1 {M T c l a b e f:Nat} (h:c+(1+(a+(b+(e+f))))*M<=T) (hl:l<=b) (hM:1<=M):c+1+l<=T - e*M/\e*M<=T:=by
 rw[Nat.add_mul,Nat.add_mul,Nat.add_mul,Nat.add_mul,Nat.one_mul] at h;have hb:b<=b*M:=Nat.le_mul_of_pos_right _ hM;generalize a*M=a1 at h;generalize b*M=b1 at h hb;generalize e*M=e1 at h ⊢;generalize f*M=f1 at h;omega
theorem Re {M T c a b x:Nat} (h:c+a*M<=T) (hx:x+1<=a) (hb:b<=1) (hM:1<=M):c+b+x*M<=T:=by
 have h2:=Nat.mul_le_mul_right M hx;rw[Nat.add_mul,Nat.one_mul] at h2;generalize a*M=a1 at h h2;generalize x*M=x1 at h2 ⊢;omega
structure WkPre (K:Nat->Prop) (mb mf bp op:Nat) (w:World) (k:Int) (s:ByteArray) (n:Int) (ps:List Ty) (fs:Bp) (vs:Bm) (A:Option Addr) (d:Nat) (A2:Option Addr) (d2:Nat) (A3:Option Addr) (d3:Nat):Prop where
 HX:Hid (∀ wx,ButG (fun x=>x=mb\/x=mf) w wx->(wx.cell? ⟨bp,op,none⟩=some (.int .i64 k)/\wx.cell? ⟨bp,op+1,none⟩=some (.string s)/\wx.cell? ⟨bp,op+2,none⟩=some (.int .i64 n)/\wx.cell? ⟨bp,op+3,none⟩=some (.slice A ps.length d)/\wx.cell? ⟨bp,op+4,none⟩=some (.slice A2 fs.length d2)/\wx.cell? ⟨bp,op+5,none⟩=some (.slice A3 vs.length d3)))
 HP:Hid (∀ wx,ButG (fun x=>x=mb\/x=mf) w wx->ListT K wx ps A d)
 HF:Hid (∀ wx,ButG (fun x=>x=mb\/x=mf) w wx->ListF K wx fs A2 d2)
 HV:Hid (∀ wx,ButG (fun x=>x=mb\/x=mf) w wx->ListV K wx vs A3 d3)
 HT:Hid (s.size<=1000000000000000)
theorem Px {K:Nat->Prop} {mb mf bp op:Nat} {w:World} {k:Int} {s:ByteArray} {n:Int} {ps:List Ty} {fs:Bp} {vs:Bm} (ha:AtT K w (.mk k s n ps fs vs) bp op) (hbp:bp≠mb/\bp≠mf) (hK:∀ x,K x->x<w.heap.size/\x≠mb/\x≠mf):∃ A d A2 d2 A3 d3,WkPre K mb mf bp op w k s n ps fs vs A d A2 d2 A3 d3:=by
 obtain⟨cs,h1,h2⟩:=ha;obtain⟨A,d,A2,d2,A3,d3,rfl,ht,hL,hF,hV⟩:=h2.inv;simp only[Ar] at h1;have hk:∀ x,K x->¬ (x=mb\/x=mf)/\K x:=fun x hx=>⟨fun e=>e.elim (hK x hx).2.1 (hK x hx).2.2,hx⟩;have hb:¬ (bp=mb\/bp=mf):=fun e=>e.elim hbp.1 hbp.2;exact⟨A,d,A2,d2,A3,d3,Hd fun wx hx=>⟨hx.cell hb (h1 0 _ rfl),hx.cell hb (h1 1 _ rfl),hx.cell hb (h1 2 _ rfl),hx.cell hb (h1 3 _ rfl),hx.cell hb (h1 4 _ rfl),hx.cell hb (h1 5 _ rfl)⟩,Hd fun wx hx=>hL.but hx hk,Hd fun wx hx=>hF.but hx hk,Hd fun wx hx=>hV.but hx hk,Hd ht⟩
theorem Id {x:ByteArray} {cut:Nat->Bool} (h:∀ i,cut i=false):∀ (l:List Ty) (j:Nat),Em x cut j l=Hr x l
 | [],_=>rfl
 | p :: l,j=>by
  rw[Em,Id h l (j+1),h j];rfl
theorem Ig (vs:Bm) (x:ByteArray):Cl (vs.map (·.1)) x=Dq vs x:=by
 unfold Cl Dq;rw[List.any_map];rfl
theorem Zp {x:ByteArray} {k:Int} {s:ByteArray} {n:Int} {ps:List Ty} {fs:Bp} {vs:Bm} (h16:k≠16) (h20:k≠20) (h21:k≠21) (h:fs.length=0\/vs.length=0):Bl x (.mk k s n ps fs vs)=((!Cl (vs.map (·.1)) x && (Hr x ps || J1 x vs)) || Mj x fs):=by
 have e16:(k == 16)=false:=beq_eq_false_iff_ne.2 h16;have e20:(k == 20)=false:=beq_eq_false_iff_ne.2 h20;have e21:(k == 21)=false:=beq_eq_false_iff_ne.2 h21;rw[Ef,Id (fun i=>by unfold C5;rw[e20,e21];rfl),e16,Ig];rcases h with h | h
 ·obtain rfl:=List.eq_nil_of_length_eq_zero h;have e:Mj x ([]:Bp)=false:=rfl;rw[e]
  cases Dq vs x <;> cases J1 x vs <;> cases Hr x ps <;> rfl
 ·obtain rfl:=List.eq_nil_of_length_eq_zero h;have e:J1 x ([]:Bm)=false:=rfl;have e2:Dq ([]:Bm) x=false:=rfl;rw[e,e2]
  cases Hr x ps <;> cases Mj x fs <;> rfl
theorem Zq (x:ByteArray) {l:Bm} {i:Nat} (h:i<l.length):J1 x (l.take (i+1))=(J1 x (l.take i) || Hr x (l[i]'h).2):=by
 unfold J1;rw[List.take_succ_eq_append_getElem h,List.any_append];simp
theorem Zn (x:ByteArray) {l:Bp} {i:Nat} (h:i<l.length):Mj x (l.take (i+1))=(Mj x (l.take i) || Bl x (l[i]'h).2.2):=by
 unfold Mj;rw[List.take_succ_eq_append_getElem h,List.any_append];simp
theorem Ia:∀ {l:Bm} {v:ByteArray×List Ty},v∈l->An v.2<=Be l
 | a :: l,v,h=>by
  have e:Be (a :: l)=An a.2+Be l:=rfl;rw[e];rcases List.mem_cons.1 h with rfl | h
  ·omega
  ·have:=Ia h;omega
theorem Gg {k:Int} {s:ByteArray} {n:Int} {ps:List Ty} {fs:Bp} {vs:Bm} (h:Ab (.mk k s n ps fs vs)=true):∀ v∈vs,∀ b∈v.2,Ab b=true:=by
 rw[Am,Bool.and_eq_true,Bool.and_eq_true,Bool.and_eq_true] at h;obtain⟨⟨⟨-,hfit⟩,hself⟩,-⟩:=h;intro v hv b hb;obtain⟨i,hi,rfl⟩:=List.getElem_of_mem hv;have hk:k=13:=by
  by_cases e:k=13
  ·exact e
  ·have:=(Pe hfit).2.1 (Lq e);omega
 have hvb:Dy (C3 vs Ab)=true:=by
  subst hk;unfold Bh at hself;simpa using hself
 unfold Dy at hvb;have h2:=List.all_eq_true.1 hvb i (List.mem_range.2 (by unfold C3;rw[List.length_map];exact hi));unfold okV C3 at h2;rw[List.getElem?_map,List.getElem?_eq_getElem hi] at h2;simp only[Option.map_some,Bool.and_eq_true,List.all_eq_true,id_eq] at h2;exact h2.1.2 _ (List.mem_map_of_mem hb)
theorem Xk {k:Int} {s:ByteArray} {n:Int} {ps:List Ty} {fs:Bp} {vs:Bm} (h16:k≠16) (h20:k≠20) (h21:k≠21) (hp:∀ p∈ps,Lz p) (hf:∀ f∈fs,Lz f.2.2) (hv:∀ v∈vs,∀ b∈v.2,Lz b):Lz (.mk k s n ps fs vs):=by
 intro K U g mb mf w bp op c S ha hbp hK hS hU hUl hc hfm hvs;obtain⟨A,d,A2,d2,A3,d3,HX,HP,HF,HV,HT⟩:=Px ha hbp hK;obtain⟨l1,l2,l3,l4⟩:=D8 hfm;obtain⟨v1,v2,v3,v4⟩:=E6 hvs;have hbs:=Gg hfm;have hcm:=Br k s n ps fs vs;have HVL:=Hd v1;have HVS2:=Hd v2;have HVS3:=Hd v3;have HVS4:=Hd v4;have HBS:=Hd hbs;have HK:=Hd hK;have HS:=Hd hS;have HU:=Hd hU;have HUL:=Hd hUl;have HC:=Hd hc;have HFM:=Hd hfm;have HCM:=Hd hcm;have HPI:=Hd hp;have HFI:=Hd hf;have HVI:=Hd hv;have HL13:Hid (k≠13->vs.length=0):=Hd l2;have HL14:Hid (fs.length=0\/vs.length=0):=Hd (by by_cases h:k=14;exact .inr (l2 (by omega));exact .inl (l1 h));have e16:(k == 16)=false:=beq_eq_false_iff_ne.2 h16;have e20:(k == 20)=false:=beq_eq_false_iff_ne.2 h20;have e21:(k == 21)=false:=beq_eq_false_iff_ne.2 h21;have HK16:=Hd h16;have HK20:=Hd h20;have HK21:=Hd h21;obtain⟨x0,-,-,-,-,-⟩:=HX.out _ (ButG.refl _ _);clear ha hbp hK hS hU hUl hc hfm hvs l1 l2 l3 l4 v1 v2 v3 v4 hbs hcm hp hf hv h16 h20 h21;go_enter Tryz.func153,Tryz.ntmps153
 go_upto_if 48 with fail
 clear x0
 go_cut [4] from 9 (fun nv wx=>∃ AN cN,nv=.slice AN vs.length cN/\ListS wx (vs.map (·.1)) AN/\(∀ b o,AN=some ⟨b,o,none⟩->w.heap.size<=b)/\Below w.heap.size w wx)
 case first=>
  by_cases h13:k=13
  ·have f13:(k == 13)=true:=by simp[h13]
   rw[f13];clear h13 f13;obtain⟨i0,hi0,hz0,hz1,hz2⟩:=D4 Ih;obtain⟨-,-,-,-,-,x5⟩:=HX.out _ (ButG.refl _ _);go_wp2_with fail;clear x5
   go_loopw [4,54] (fun nv v wr=>∃ i:Nat,i<=vs.length/\v=.int .i64 i/\OutS w.heap.size wr nv ((vs.take i).map (·.1))/\Below w.heap.size w wr) (fun _ v _=>vs.length - (intOf v).toNat)
   case atStart=>exact⟨0,Nat.zero_le _,rfl,by exact⟨rfl,.inl ⟨rfl,rfl⟩⟩,Below.refl _ _⟩
   case round=>
    obtain⟨i,hi,rfl,hrow,hb⟩:=hrel;have hvl:=HVL.out;have hln:((vs.take i).map (·.1)).length=i:=(by rw[List.length_map,List.length_take];omega);obtain⟨A4,c4,rfl,-⟩:=hrow.list (by rw[hln];omega);rw[hln];by_cases hin:i<vs.length
    ·have t1:decide ((i:Int)<(vs.length:Int))=true:=(by simp;omega);have wr2:wrap64 ((i:Int)+1)=((i+1:Nat):Int):=Ao (by omega);have HM:=Hd (Ba hin);have HIn:Hid (i+1<=vs.length):=Hd hin;obtain⟨vb,vo,hA,hKv,hat⟩:=(HV.out wr (ButG.of_below hb)).at (Nat.lt_of_le_of_lt (Nat.zero_le i) hin);subst hA;obtain⟨B',d',hy0,hy1,hsz,-⟩:=hat i hin;have hnx:(vs.take (i+1)).map (·.1)=(vs.take i).map (·.1)++[(vs[i]'hin).1]:=(by rw[List.take_succ_eq_append_getElem hin,List.map_append];rfl);generalize vs[i]'hin=vv at hy0 hy1 hsz hnx;obtain⟨nm,l⟩:=vv;dsimp only at hy0 hy1 hsz hnx;obtain⟨vq,hvq⟩:∃ x,x=wr.heap.size:=⟨_,rfl⟩;obtain⟨wb,hwb⟩:∃ x,x=wr.alloc (.cells #[.string nm,.slice B' l.length d'] 62):=⟨_,rfl⟩;have hbb:Below wr.heap.size wr wb:=(by rw[hwb];exact (Below.refl _ _).alloc (Nat.le_refl _) _);have hxb:wb.heap[vq]?=some (.cells #[.string nm,.slice B' l.length d'] 62 (0,0)):=(by rw[hwb,hvq];exact heap_alloc_new wr _);obtain⟨wd,hwd⟩:∃ x,x=wb.alloc (.cells #[.string nm] 9):=⟨_,rfl⟩;have hbd:Below wb.heap.size wb wd:=(by rw[hwd];exact (Below.refl _ _).alloc (Nat.le_refl _) _);have hxd:wd.heap[wb.heap.size]?=some (.cells #[.string nm] 9 (0,0)):=(by rw[hwd];exact heap_alloc_new wb _);have HBD:=Hd (hb.trans ((hbb.trans (hbd.mono hbb.size)).mono hb.size));have HROW:Hid (wd.ownsRow w.heap.size 9 1 (.slice A4 i c4) i (((vs.take i).map (·.1)).map .string)):=Hd (by
      have h:=hrow.later (hbb.trans (hbd.mono hbb.size));unfold OutS at h;rw[hln] at h;exact h)
     have HXB:=Hd hxb;have HXD:=Hd hxd;have HWB:=Hd hwb;have HWD:=Hd hwd;have HVQ:=Hd hvq;have HNX:=Hd hnx;have HLN:=Hd hln;clear hi hrow hb hvl hln hat hKv hsz hnx hvq hwb hbb hxb hwd hbd hxd;have i1:(0:Int)<=(i:Int):=(by omega);have i2:(i:Int)<(vs.length:Int):=(by omega);go_upto_region 13 with fail
     rw[<-HWB.out,<-HVQ.out];clear hy0 hy1;have b0:wb.cell? ⟨vq,0,none⟩=some (.string nm):=(by rw[Ch HXB.out];rfl);go_wp2_with (at_builtin;refine wpList_plain rfl fun Kx hK=>?_;rw[<-HWD.out];go_loud (refine Bz _ _ 46 rfl w.heap.size 9 i0 (.string ⟨#[]⟩) 1 16 Tryz.underlying46 hi0 hz0 hz1 hz2 rfl (by decide) _ _ _ rfl HROW.out ⟨wb.heap.size,0,none⟩ 1 1 [.string nm] rfl rfl ?a0 ?a1 ?a2 ?a3 ?a4 ?_))
     case a0=>
      intro j u hj;have e2:((⟨wb.heap.size,0,none⟩:Addr).add j)=⟨wb.heap.size,j,none⟩:=by unfold Addr.add;by_cases h0:j=0 <;> simp[h0]
      (try rw[e2])
      rw[Ch HXD.out];simpa using hj
     case a1=>
      first
      | rfl
      | (intro u hu;simp only[List.mem_cons,List.not_mem_nil,or_false] at hu;rw[hu];rfl)
     case a2=>have h1:=HIn.out;have h2:=HVL.out;unfold maxLen;omega
     case a3=>have h1:=HIn.out;have h2:=HVL.out;omega
     case a4=>exact HBD.out.size
     intro v5 w5 hown5 hg5 _ _;refine hK _ _ ?_;have HO5:Hid (OutS w.heap.size w5 v5 ((vs.take (i+1)).map (·.1))):=Hd (by
      unfold OutS;have e:((vs.take (i+1)).map (·.1)).length=i+1:=(by rw[HNX.out,List.length_append,HLN.out];rfl);have h:=hown5;rw[e,HNX.out,List.map_append];simp only[List.map_take,List.map_map,List.map_cons,List.map_nil] at h ⊢;exact h)
     have HB5:Hid (Below w.heap.size w w5):=Hd (HBD.out.grown hg5 HBD.out.size fun k hk=>(HROW.out.lt k hk).1);clear hK Kx hown5 hg5 b0;go_wp2_with fail;refine⟨⟨i+1,HIn.out,by first | rfl | rw[wr2],HO5.out,HB5.out⟩,?_⟩;first | exact HM.out | (rw[wr2];exact HM.out)
    ·have t1:decide ((i:Int)<(vs.length:Int))=false:=(by simp;omega);obtain rfl:i=vs.length:=by omega
     rw[List.take_length] at hrow;simp only[List.length_map] at hrow;have hgo:∃ AN cN,(Value.slice A4 vs.length c4)=.slice AN vs.length cN/\ListS wr (vs.map (·.1)) AN/\(∀ b o,AN=some ⟨b,o,none⟩->w.heap.size<=b)/\Below w.heap.size w wr:=by
      obtain⟨AN,cN,e1,e2⟩:=hrow.list (by rw[List.length_map];omega);rw[List.length_map] at e1;refine⟨AN,cN,e1,e2,fun b o e=>?_,hb⟩;rw[e1,e] at hrow;exact (World.ownsRow.lt hrow b rfl).1
     have HGO:=Hd hgo;clear hi hin hrow hb hvl hln hgo;go_wp2_with fail
     go_meet
     exact HGO.out
  ·have f13:(k == 13)=false:=beq_eq_false_iff_ne.2 h13;have hv0:=HL13.out h13;have e0:vs=[]:=List.eq_nil_of_length_eq_zero hv0;have HGO:Hid (∃ AN cN,(Value.slice none 0 0)=.slice AN vs.length cN/\ListS w (vs.map (·.1)) AN/\(∀ b o,AN=some ⟨b,o,none⟩->w.heap.size<=b)/\Below w.heap.size w w):=Hd ⟨none,0,by rw[hv0],⟨0,0,fun h=>by rw[List.length_map,hv0] at h;omega,by rw[List.length_map,hv0];omega,fun i hi=>by rw[List.length_map,hv0] at hi;omega⟩,(fun b o e=>by cases e),Below.refl _ _⟩;clear h13 hv0 e0;go_wp2_with fail
   go_meet
   exact HGO.out
 case rest=>
  obtain⟨AN,cN,rfl,hls,han,hbc⟩:=hcut;obtain⟨wv,hwv⟩:∃ x:World,x=wc:=⟨_,rfl⟩;subst hwv;have HLT:=Hd HS.out.lt;have HBV:Hid (ButG (fun x=>x=mb\/x=mf) w wv):=Hd (ButG.of_below hbc);have HAN:Hid (∀ b o,AN=some ⟨b,o,none⟩->b≠mb/\b≠mf):=Hd fun b o e=>by have h1:=han b o e;have h2:=HLT.out;omega
  have HLS:Hid (∀ wx,ButG (fun x=>x=mb\/x=mf) wv wx->ListS wx (vs.map (·.1)) AN):=Hd fun wx hx=>hls.but hx fun b o e h=>h.elim (HAN.out b o e).1 (HAN.out b o e).2;have HSV:=Hd (HS.out.later hbc);have HLM:Hid ((vs.map (·.1)).length=vs.length):=Hd (List.length_map ..);have HNU:Hid (∀ x∈vs.map (·.1),x∈U/\x.size<=maxLen):=Hd fun x hx=>by
   obtain⟨v,hv,rfl⟩:=List.mem_map.1 hx;refine⟨HU.out _ (Sb hv),?_⟩;obtain⟨i,hi,rfl⟩:=List.getElem_of_mem hv;obtain⟨vb,vo,-,-,hat⟩:=(HV.out w (ButG.refl _ _)).at (Nat.lt_of_le_of_lt (Nat.zero_le i) hi);obtain⟨_,_,_,_,hsz,_⟩:=hat i hi;exact Nat.le_trans hsz (by decide)
  obtain⟨BB,hBB⟩:∃ BB,BB=9000000000000000000 - Ai (.mk k s n ps fs vs)*1000000000000002+1000000000000002:=⟨_,rfl⟩;have HB1:Hid (∀ x,c x+cI (vs.map (·.1)) x<=BB):=Hd fun x=>by
   have h1:=HC.out x;have h2:=T6 (vs.map (·.1)) x;have h3:=HLM.out;have h4:=HVL.out;omega
  have HB2:Hid (BB<=9000000000000000000):=Hd (by have h1:=HC.out s;have h2:=Jb (.mk k s n ps fs vs);omega);have HB3:Hid (∀ p:Ty,Ai p+1<=Ai (.mk k s n ps fs vs)->BB+Ai p*1000000000000002<=9000000000000000000):=Hd fun p hp=>by
   have h1:=HC.out s;have h2:=Nat.mul_le_mul_right 1000000000000002 hp;rw[Nat.add_mul] at h2;omega
  have HKX:Hid (∀ wx,ButG (fun x=>x=mb\/x=mf) w wx->∀ x,K x->x<wx.heap.size/\x≠mb/\x≠mf):=Hd fun wx hx x h=>⟨Nat.lt_of_lt_of_le (HK.out x h).1 hx.size,(HK.out x h).2⟩;have KW0:=D5 (cN:=cN) (HLS.out wv (ButG.refl _ _)) HAN.out (HP.out wv HBV.out) (HKX.out wv HBV.out) HSV.out HNU.out HUL.out HB1.out HB2.out (fun p hp=>⟨fun x hx=>HU.out x (G5 hp hx),⟨Ci HFM.out p hp,HVS3.out p hp⟩,HB3.out p (by have h1:=Gn hp;have h2:=HCM.out;omega)⟩) HPI.out;rw[HLM.out] at KW0;have KW:=Hd KW0;obtain⟨-,-,-,x3,-,-⟩:=HX.out _ HBV.out;clear hls han hbc hBB KW0;go_wp2_with fail;refine KW.out.mono ?_;rintro e w3 ⟨rfl,hs3,hb3⟩;have HS3:=Hd hs3;have HB33:Hid (ButG (fun x=>x=mb\/x=mf) wv w3):=Hd hb3;have HBW3:Hid (ButG (fun x=>x=mb\/x=mf) w w3):=Hd (HBV.out.trans hb3 fun x h=>.inl h);clear hs3 hb3 KW x3;obtain⟨-,-,-,-,-,x5⟩:=HX.out _ HBW3.out;go_wp2_with fail;clear x5
  go_loopw [76] (fun v wr=>∃ i:Nat,i<=vs.length/\v=.int .i64 i/\SeS U wr g mb mf c (fun x=>S x || (decide (c x=0) && (!Cl (vs.map (·.1)) x && (Hr x ps || J1 x (vs.take i)))))/\ButG (fun x=>x=mb\/x=mf) w3 wr) (fun v _=>vs.length - (intOf v).toNat)
  case atStart=>exact⟨0,Nat.zero_le _,rfl,HS3.out.same (fun _=>rfl) (fun x=>by simp[J1]),ButG.refl _ _⟩
  case round=>
   obtain⟨i,hi,rfl,hst,hbw⟩:=hrel;have hvl:=HVL.out;have HBX:Hid (ButG (fun x=>x=mb\/x=mf) w wr):=Hd (HBW3.out.trans hbw fun x h=>.inl h);have HBY:Hid (ButG (fun x=>x=mb\/x=mf) wv wr):=Hd (HB33.out.trans hbw fun x h=>.inl h);have HBW:=Hd hbw;by_cases hin:i<vs.length
   ·have t1:decide ((i:Int)<(vs.length:Int))=true:=(by simp;omega);have wr2:wrap64 ((i:Int)+1)=((i+1:Nat):Int):=Ao (by omega);have HM:=Hd (Ba hin);have HIn:Hid (i+1<=vs.length):=Hd hin;obtain⟨vb,vo,hA,hKv,hat⟩:=(HV.out wr HBX.out).at (Nat.lt_of_le_of_lt (Nat.zero_le i) hin);obtain⟨-,-,-,-,-,x5⟩:=HX.out _ HBX.out;subst hA;obtain⟨B',d',-,hy1,-,hlt⟩:=hat i hin;have hmem:=List.getElem_mem hin;have hnx:=fun x=>Zq x hin;have hbs:=HBS.out _ hmem;have hv2:=HVS2.out _ hmem;have hvi:=HVI.out _ hmem;have hcv:An (vs[i]'hin).2<=Be vs:=Ia hmem;have hbn:∀ b∈(vs[i]'hin).2,∀ x∈Ee b,x∈U:=fun b hb x hx=>HU.out x (I5 hmem hb hx);generalize (vs[i]'hin).2=l at hy1 hlt hnx hbs hv2 hvi hcv hbn;have KW0:=D5 (cN:=cN) (HLS.out wr HBY.out) HAN.out hlt (HKX.out wr HBX.out) hst HNU.out HUL.out HB1.out HB2.out (fun p hp=>⟨hbn p hp,⟨hbs p hp,hv2 p hp⟩,HB3.out p (by have h1:=Gn hp;have h2:=HCM.out;omega)⟩) hvi;rw[HLM.out] at KW0;have KW:=Hd KW0;have HNX:=Hd hnx;have i1:(0:Int)<=(i:Int):=(by omega);have i2:(i:Int)<(vs.length:Int):=(by omega);clear hi hst hbw hvl hat hKv hlt hmem hnx hbs hv2 hvi hcv hbn KW0;go_wp2_with fail;refine KW.out.mono ?_;rintro e w4 ⟨rfl,hs4,hb4⟩;have HS4:Hid (SeS U w4 g mb mf c (fun x=>S x || (decide (c x=0) && (!Cl (vs.map (·.1)) x && (Hr x ps || J1 x (vs.take (i+1))))))):=Hd (hs4.same (fun _=>rfl) fun x=>by
     rw[HNX.out];dsimp only;generalize decide (c x=0)=d1;generalize Cl (vs.map (·.1)) x=d2;generalize Hr x ps=d3;generalize J1 x (vs.take i)=d4;generalize Hr x l=d5
     cases S x <;> cases d1 <;> cases d2 <;> cases d3 <;> cases d4 <;> cases d5 <;> rfl)
    have HB4:Hid (ButG (fun x=>x=mb\/x=mf) w3 w4):=Hd (HBW.out.trans hb4 fun x h=>.inl h);clear hs4 hb4 KW HNX x5 hy1;go_wp2_with fail;refine⟨⟨i+1,HIn.out,by first | rfl | rw[wr2],HS4.out,HB4.out⟩,?_⟩;first | exact HM.out | (rw[wr2];exact HM.out)
   ·have t1:decide ((i:Int)<(vs.length:Int))=false:=(by simp;omega);obtain rfl:i=vs.length:=by omega
    rw[List.take_length] at hst;have HST:=Hd hst;obtain⟨-,-,-,-,x4,-⟩:=HX.out _ HBX.out;have HFL:Hid (fs.length<=1000000000000000):=Hd (HF.out _ HBX.out).shortF;clear hi hin hst hbw hvl;go_wp2_with fail;clear x4
    go_loopw [96] (fun v wy=>∃ (i:Nat) (wo:World),i<=fs.length/\v=.int .i64 i/\wo=wy/\SeS U wy g mb mf c (fun x=>S x || (decide (c x=0) && ((!Cl (vs.map (·.1)) x && (Hr x ps || J1 x vs)) || Mj x (fs.take i))))/\ButG (fun x=>x=mb\/x=mf) w wy) (fun v _=>fs.length - (intOf v).toNat)
    case atStart=>exact⟨0,_,Nat.zero_le _,rfl,rfl,HST.out.same (fun _=>rfl) (fun x=>by simp[Mj]),HBX.out⟩
    case round=>
     clear HST HBX HBY HBW;obtain⟨i,wo,hi,rfl,hwo,hst,hbw⟩:=hrel;subst hwo;have hfl:=HFL.out;have HBW:=Hd hbw;by_cases hin:i<fs.length
     ·have t1:decide ((i:Int)<(fs.length:Int))=true:=(by simp;omega);have wr2:wrap64 ((i:Int)+1)=((i+1:Nat):Int):=Ao (by omega);have HM:=Hd (Ba hin);have HIn:Hid (i+1<=fs.length):=Hd hin;obtain⟨fb,fo,hA,hKf,hat⟩:=(HF.out wo hbw).at (Nat.lt_of_le_of_lt (Nat.zero_le i) hin);obtain⟨-,-,-,-,x4,-⟩:=HX.out _ hbw;subst hA;obtain⟨-,-,-,hft⟩:=hat i hin;have hmem:=List.getElem_mem hin;have hnx:=fun x=>Zn x hin;have hfi:=HFI.out _ hmem;have hbn:∀ x∈Ee (fs[i]'hin).2.2,x∈U:=fun x hx=>HU.out x (I6 hmem hx);have hfo:=Ek (t:=.mk k s n ps fs vs) HFM.out _ hmem;have hv4:=HVS4.out _ hmem;have hcf:=Js hmem;generalize (fs[i]'hin).2.2=t at hft hnx hfi hbn hfo hv4 hcf;have KW:=Hd (hfi K U g mb mf wo fb (fo+i*8+2) c _ hft ⟨(HK.out fb hKf).2.1,(HK.out fb hKf).2.2⟩ (HKX.out wo hbw) hst hbn HUL.out (fun x=>by
       have h1:=HC.out x;have h2:=Nat.mul_le_mul_right 1000000000000002 (show Ai t<=Ai (.mk k s n ps fs vs) by rw[HCM.out];omega);exact Nat.le_trans (Nat.add_le_add_left h2 _) h1) hfo hv4)
      have HNX:=Hd hnx;have i1:(0:Int)<=(i:Int):=(by omega);have i2:(i:Int)<(fs.length:Int):=(by omega);clear hi hst hbw hfl hat hKf hft hmem hnx hfi hbn hfo hv4 hcf;go_wp2_with fail;refine KW.out.mono ?_;rintro e w4 ⟨rfl,hs4,hb4⟩;have HS4:Hid (SeS U w4 g mb mf c (fun x=>S x || (decide (c x=0) && ((!Cl (vs.map (·.1)) x && (Hr x ps || J1 x vs)) || Mj x (fs.take (i+1)))))):=Hd (hs4.same (fun _=>rfl) fun x=>by
       rw[HNX.out];dsimp only;generalize decide (c x=0)=d1;generalize (!Cl (vs.map (·.1)) x && (Hr x ps || J1 x vs))=d2;generalize Mj x (fs.take i)=d4;generalize Bl x t=d5
       cases S x <;> cases d1 <;> cases d2 <;> cases d4 <;> cases d5 <;> rfl)
      have HB4:Hid (ButG (fun x=>x=mb\/x=mf) w w4):=Hd (HBW.out.trans hb4 fun x h=>.inl h);clear hs4 hb4 KW HNX x4;go_wp2_with fail;refine⟨⟨i+1,w4,HIn.out,by first | rfl | rw[wr2],rfl,HS4.out,HB4.out⟩,?_⟩;first | exact HM.out | (rw[wr2];exact HM.out)
     ·have t1:decide ((i:Int)<(fs.length:Int))=false:=(by simp;omega);obtain rfl:i=fs.length:=by omega
      rw[List.take_length] at hst;have HST:Hid (SeS U wo g mb mf c (fun x=>S x || (decide (c x=0) && Bl x (.mk k s n ps fs vs)))):=Hd (hst.same (fun _=>rfl) fun x=>by rw[Zp HK16.out HK20.out HK21.out HL14.out]);clear hi hin hst hbw hfl;go_wp2_with fail
      go_end0
      exact⟨rfl,HST.out,HBW.out⟩
end Go.Proofs.YtlpfpehegddcfaaGreatDoor
