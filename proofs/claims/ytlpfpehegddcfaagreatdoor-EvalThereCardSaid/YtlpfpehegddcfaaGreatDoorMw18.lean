import Derived.Test.YtlpfpehegddcfaaGreatDoorMw17
namespace Go.Proofs.YtlpfpehegddcfaaGreatDoor
set_option maxRecDepth 100000
set_option maxHeartbeats 64000000
open Go.RowKit
def H3 (k:Int) (l:List Ty):List Ty:=E7 k :: l.filter fun t=>!(t.k == k) && En t
theorem Wz {k:Int}{l:List Ty}{i:Nat}(h:i<l.length):H3 k (l.take (i+1))=H3 k (l.take i)++(if !(l[i].k == k) && En l[i] then [l[i]] else []):=by
 unfold H3;rw[List.take_succ_eq_append_getElem h,List.filter_append,List.cons_append]
 congr 2
 simp only[List.filter_cons,List.filter_nil]
theorem No (k:Int) (l:List Ty):(H3 k l).length<=l.length+1:=by
 unfold H3;have:=List.length_filter_le (fun t=>!(t.k == k) && En t) l;simp only[List.length_cons];omega
structure Jfu (K:Nat->Prop) (w0 w:World) (A:Option Addr) (l:List Ty):Prop where
 ex:∃b,(0<l.length->A=some ⟨b,0,none⟩)/\l.length<=1099511627776/\∀i (h:i<l.length),∃cs,An K w0 l[i] cs/\∀j u,cs[j]?=some u->w.cell? ⟨b,i*6+j,none⟩=some u
theorem Cl.src {K:Nat->Prop}{w0 w:World}{v:Value}{l:List Ty}(h:Cl K w0 w v l) (hl:l.length<=1099511627776):∃A c,v=.slice A l.length c/\Jfu K w0 w A l:=by
 rcases Fm.of_out h with ⟨rfl,rfl⟩|⟨g,c,rfl,-,hi⟩
 ·exact⟨none,0,rfl,⟨0,fun h=>absurd h (by simp),by simp,fun i h=>absurd h (by simp)⟩⟩
 ·exact⟨_,_,rfl,⟨g,fun _=>rfl,hl,fun i h=>hi.reps i _ (List.getElem?_eq_getElem h)⟩⟩
theorem Cl.back {K:Nat->Prop}{w0 w w':World}{v:Value}{l:List Ty}(hK:∀b,K b->b<w0.heap.size) (hb:Below w0.heap.size w0 w) (h:Cl K w w' v l):Cl K w0 w' v l:=by
 obtain⟨vs,h1,h2⟩:=h;refine⟨vs,⟨h1.1,?_⟩,fun i hi=>?_⟩
 ·rcases h1.2 with h3|⟨g,cap,cur,hv,hg,r⟩
  ·exact .inl h3
  ·exact .inr ⟨g,cap,cur,hv,Nat.le_trans hb.size hg,r⟩
 ·obtain⟨cs,h3,h4⟩:=h2 i hi;exact⟨cs,An.keep (fun _ h=>h) (fun b o v hA hc=>(hb.cell (hK b hA)).symm.trans hc) _ cs h3,h4⟩
theorem Ky (K:Nat->Prop) (w:World) (k:Int):An K w (E7 k) [.int .i64 k,.string ⟨#[]⟩,.int .i64 0,.slice none 0 0,.slice none 0 0,.slice none 0 0]:=
 An.of (ps:=[]) (fs:=[]) (vs:=[]) (by show (0:Nat)<=_;omega) ⟨0,0,⟨Nat.le_refl _,Nat.zero_le _,fun _=>rfl,fun h=>absurd h (Nat.lt_irrefl 0)⟩,fun i h=>absurd h (Nat.not_lt_zero i)⟩ ⟨0,0,⟨Nat.le_refl _,Nat.zero_le _,fun _=>rfl,fun h=>absurd h (Nat.lt_irrefl 0)⟩,fun i h=>absurd h (Nat.not_lt_zero i)⟩ ⟨0,0,⟨Nat.le_refl _,Nat.zero_le _,fun _=>rfl,fun h=>absurd h (Nat.lt_irrefl 0)⟩,fun i h=>absurd h (Nat.not_lt_zero i)⟩
theorem Cl.one {K:Nat->Prop}{w0 w:World}(k:Int) (hb:w0.heap.size<=w.heap.size):Cl K w0 (w.alloc (.cells #[.int .i64 k,.string ⟨#[]⟩,.int .i64 0,.slice none 0 0,.slice none 0 0,.slice none 0 0] 26)) (.slice (some ⟨w.heap.size,0,none⟩) 1 1) [E7 k]:=by
 refine Fm.o (ts:=[E7 k]) ⟨Nat.le_refl _,by decide,⟨_,heap_alloc_new w _,rfl⟩,fun i t hi=>?_⟩ hb;rcases i with _|i
 ·injection hi with hi
  subst hi;refine⟨_,Ky K w0 k,fun j u hj=>?_⟩;rw[cell_of_row _ _ _ _ _ _ (heap_alloc_new w _)];simpa using hj
 ·exact absurd hi (by simp)
theorem Cl.later {K:Nat->Prop}{w0 w w':World}{v:Value}{l:List Ty}(h:Cl K w0 w v l) (hb:Below w.heap.size w w'):Cl K w0 w' v l:=
 h.keep fun b hv=>hb.block b (by obtain⟨vs,h1,-⟩:=h;exact (h1.lt b hv).2)
theorem D5.nil (B:Nat) (w:World):D5 B w (.slice none 0 0) []:=World.ownsRow_nil _ _ _ _
theorem Np {K:Nat->Prop}{w0 w:World}{l:List Ty}{A:Option Addr}{c:Nat}(k:Int) (hK:∀b,K b->b<w0.heap.size) (hb:Below w0.heap.size w0 w) (hS:Jfu K w0 w A l) (hn:∀t∈l,(Bi t).length<=1099511627776) (hl:l.length+1<=1099511627776) :
  Calls Tryz.prog 59 #[.slice A l.length c,.int .i64 k] w fun e w'=>∃v',e=.returned v'/\Cl K w0 w' v' (H3 k l)/\Below w.heap.size w w':=by
 obtain⟨b,hA,_,kA⟩:=hS;have kF:=Hd kA;have kD:=Hd hA;have HN:=Hd hn;have HB:=Hd hb;have HL:=Hd hl;have HK:=Hd hK;clear kA hA hn hb hK;go_enter Tryz.func59,Tryz.ntmps59;go_wp2_with fail;have hU:=Hd (Cl.one (K:=K) (w:=w) (w0:=w) k (Nat.le_refl _));have kG:Z9 (Below w.heap.size w (w.alloc (.cells #[.int .i64 k,.string ⟨#[]⟩,.int .i64 0,.slice none 0 0,.slice none 0 0,.slice none 0 0] 26))):=Hd ((Below.refl _ _).alloc (Nat.le_refl _) _);obtain⟨i0,kL,kM,kN,kO⟩:=Ec Hf;generalize w.alloc (.cells #[.int .i64 k,.string ⟨#[]⟩,.int .i64 0,.slice none 0 0,.slice none 0 0,.slice none 0 0] 26)=w1 at *
 go_loopw [5,6] (fun ov iv wr=>∃(i:Nat) (acc:List Ty),i<=l.length/\iv=.int .i64 i/\acc=H3 k (l.take i)/\Cl K w wr ov acc/\Below w.heap.size w wr) (fun _ v _=>l.length - (intOf v).toNat)
 case atStart=>exact⟨0,[E7 k],by omega,rfl,by simp[H3],hU.o,kG.o⟩
 case round=>
  obtain⟨i,acc,hi,rfl,hH,ho,hb⟩:=hrel;have hF:=Hd hH;have kE:Z9 (acc.length<=i+1):=Hd (by rw[hH];exact Nat.le_trans (No _ _) (by simp;omega));clear hH;have HR:=Hd (And.intro ho hb);obtain⟨vs,hN,-⟩:=ho;obtain⟨A1,c1,rfl,-⟩:=Fh hN;clear hN hb;by_cases hM:i<l.length
  ·have t1:decide ((i:Int)<(l.length:Int))=true:=by simp;omega
   have hL:wrap64 ((i:Int)+1)=((i+1:Nat):Int):=Ax (by omega);have HM:=Hd (Bf hM);have kK:=kD.o (by omega);obtain⟨cs,hE,hI⟩:=kF.o i hM;have hP:=Hd (Wz (k:=k) hM);have hR:=HN.o _ (List.getElem_mem hM);subst kK;generalize l[i]=t at hE hP hR;have kI:=Hd (Um t);obtain⟨k2,s2,n2,hC,hB,hD⟩:=t;have KI:=Hd (Uo (.mk k2 s2 n2 hC hB hD) K wr wr cs (.slice none 0 0) [] ((hE.later HB.o).later HR.o.2) (Below.refl _ _) (D5.nil _ _) List.Pairwise.nil (by simpa using hR));have HREP:=Hd (hE.later HB.o);obtain⟨Aq,cq,Ag,cg,Ah,ch,rfl,-⟩:=hE.inv;have hQ:Z9 (i+1<=l.length):=Hd hM;have HY:Z9 (∀wx,Below w.heap.size w wx->wx.cell? ⟨b,i*6,none⟩=some (.int .i64 k2)/\wx.cell? ⟨b,i*6+1,none⟩=some (.string s2)/\wx.cell? ⟨b,i*6+2,none⟩=some (.int .i64 n2)/\wx.cell? ⟨b,i*6+3,none⟩=some (.slice Aq hC.length cq)/\wx.cell? ⟨b,i*6+4,none⟩=some (.slice Ag hB.length cg)/\wx.cell? ⟨b,i*6+5,none⟩=some (.slice Ah hD.length ch)):=Hd fun wx hx=>
    ⟨Aa hx (hI 0 _ rfl),Aa hx (hI 1 _ rfl),Aa hx (hI 2 _ rfl),Aa hx (hI 3 _ rfl),Aa hx (hI 4 _ rfl),Aa hx (hI 5 _ rfl)⟩
   obtain⟨y0,y1,y2,y3,y4,y5⟩:=HY.o _ HR.o.2;simp only[Ao]at KI HREP;have kJ:=Hd hR;clear hi hI hE hR;by_cases hk:k2=k
   ·have tk:(k2 != k)=false:=(by simpa using hk);have HF:Z9 ((!(Ty.k (.mk k2 s2 n2 hC hB hD) == k) && En (.mk k2 s2 n2 hC hB hD))=false):=Hd (by simp[Ty.k,hk]);clear hk KI;go_wp2_with fail;refine⟨⟨i+1,acc,hQ.o,by first|rfl|rw[hL],?p1,HR.o.1,HR.o.2⟩,?p3⟩
    case p1=>rw[hP.o,HF.o,hF.o];simp
    case p3=>first|exact HM.o|(rw[hL];exact HM.o)
   ·have tk:(k2 != k)=true:=(by simpa using hk);have hV:Z9 ((Ty.k (.mk k2 s2 n2 hC hB hD) == k)=false):=Hd (by simpa [Ty.k] using hk);clear hk;go_wp2_with fail;refine KI.o.mono ?_;rintro e w2 ⟨v2,l2,rfl,h2⟩;have hO:=Hd (HR.o.2.trans (h2.low.mono HR.o.2.size));have hY:=Hd (HR.o.1.later h2.low);have hX:Z9 (En (.mk k2 s2 n2 hC hB hD)=decide (0<l2.length)):=Hd (by
     rw[Bool.eq_iff_iff,kI.o,decide_eq_true_iff]
     constructor
     ·intro h;obtain⟨x,hx⟩:=List.exists_mem_of_ne_nil _ h;exact List.length_pos_of_mem ((h2.mem x).2 (.inr hx))
     ·intro h e;obtain⟨x,hx⟩:=List.exists_mem_of_length_pos h;rcases (h2.mem x).1 hx with h|h
      ·exact absurd h (by simp)
      ·rw[e]at h;exact absurd h (by simp))
    obtain⟨A2,c2,rfl,-⟩:=h2.own.list (by have h3:=h2.len;have:=HN.o;have h4:=HL.o;simp only[List.length_nil,Nat.zero_add]at h3;have:=kJ.o;omega);obtain⟨z0,z1,z2,z3,z4,z5⟩:=HY.o _ hO.o;clear h2 KI y0 y1 y2 y3 y4 y5;by_cases hJ:0<l2.length
    ·have t2:decide (0<l2.length)=true:=decide_eq_true hJ;have HF:Z9 ((!(Ty.k (.mk k2 s2 n2 hC hB hD) == k) && En (.mk k2 s2 n2 hC hB hD))=true):=Hd (by rw[hV.o,hX.o,decide_eq_true hJ];rfl);obtain⟨vs,hN,kC⟩:=hY.o;have hT:=Hd (And.intro hN kC);have kH:=Hd (D6 w2 [.int .i64 k2,.string s2,.int .i64 n2,.slice Aq hC.length cq,.slice Ag hB.length cg,.slice Ah hD.length ch] 26);have hW:Z9 (acc.length+1<=1099511627776):=Hd (by have:=kE.o;have:=hQ.o;omega);clear hJ hN kC;go_wp2_with (at_builtin;refine wpList_plain rfl fun K' hK=>?_;go_loud (refine B5 _ _ 22 rfl w.heap.size 26 i0 (.agg #[.int .i64 0,.string ⟨#[]⟩,.int .i64 0,.slice none 0 0,.slice none 0 0,.slice none 0 0]) 6 104 Tryz.underlying22 kL kM kN kO rfl (by decide) _ _ _ rfl (hT.o.1.alloc _) ⟨w2.heap.size,0,none⟩ 1 1 [.int .i64 k2,.string s2,.int .i64 n2,.slice Aq hC.length cq,.slice Ag hB.length cg,.slice Ah hD.length ch] rfl rfl ?a0 ?a1 ?a2 ?a3 ?a4 ?_))
     case a0=>exact kH.o
     case a1=>
      intro u hu;simp only[List.mem_cons,List.not_mem_nil,or_false]at hu;rcases hu with rfl|rfl|rfl|rfl|rfl|rfl <;> rfl
     case a2=>have:=hW.o;unfold maxLen;omega
     case a3=>have:=hW.o;omega
     case a4=>have:=hO.o.size;simp only[World.size_alloc];omega
     intro v5 w5 hG kB _ _;refine hK _ _ ?_;clear hK K';have hZ:=Hd (Hq hO.o hT.o.1 hT.o.2 HREP.o hG kB);clear hG kB z0 z1 z2 z3 z4 z5;go_wp2_with fail;refine⟨⟨i+1,_,hQ.o,by first|rfl|rw[hL],?p1,hZ.o.1,hZ.o.2⟩,?p3⟩
     case p1=>rw[hP.o,HF.o,if_pos rfl,hF.o]
     case p3=>first|exact HM.o|(rw[hL];exact HM.o)
    ·have t2:decide (0<l2.length)=false:=decide_eq_false hJ;have HF:Z9 ((!(Ty.k (.mk k2 s2 n2 hC hB hD) == k) && En (.mk k2 s2 n2 hC hB hD))=false):=Hd (by rw[hV.o,hX.o,decide_eq_false hJ];rfl);clear hJ;go_wp2_with fail;refine⟨⟨i+1,acc,hQ.o,by first|rfl|rw[hL],?p1,hY.o,hO.o⟩,?p3⟩
     case p1=>rw[hP.o,HF.o,hF.o];simp
     case p3=>first|exact HM.o|(rw[hL];exact HM.o)
  ·have t1:decide ((i:Int)<(l.length:Int))=false:=by simp;omega
   have HE:Z9 (l.take i=l):=Hd (List.take_of_length_le (by omega));clear hi;go_wp2_with fail;go_ret
   have h2:=hF.o;rw[HE.o]at h2;rw[<-h2];exact⟨.slice A1 acc.length c1,rfl,Cl.back HK.o HB.o HR.o.1,HR.o.2⟩
theorem Q7 {K:Nat->Prop}{w0 w:World}{v:Value}{F:List Ty}{t:Ty}{cs:List Value}(hO:Cl K w0 w v F) (hA:M0 F) (ht:An K w0 t cs) (hb:Below w0.heap.size w0 w) (hB:F.length+1<=1099511627776) :
  Calls Tryz.prog 60 #[v,.agg cs.toArray] w (G8 K w0 F t):=by
 obtain⟨k,s,n,ps,fs,vs⟩:=t;obtain⟨A,c,A',c',A'',c'',rfl,-⟩:=ht.inv;rcases Fm.of_out hO with ⟨rfl,rfl⟩|⟨g,c1,rfl,hg,hC⟩
 ·exact Jes _ _ _ _ _ _ _ _ _ _ _ _ ht hb
 ·exact Jet _ _ _ _ _ _ _ _ _ _ _ _ hC hg hA ht hb hB
def Bg (x:Z8) (u:Ty):Ty->Ty
 | .mk k t n ps fs vs=>if (k == 16 && decide (t=x))=true then u
  else if (k == 15)=true then Bl (ps.attach.map fun ⟨p,_⟩=>Bg x u p)
  else .mk k t n (ps.attach.mapIdx fun i ⟨p,_⟩=>if (Ff vs x || Dz k t n ps i x)=true then p else Bg x u p) (fs.attach.map fun ⟨f,_⟩=>(f.1,f.2.1,Bg x u f.2.2)) (vs.attach.map fun ⟨v,_⟩=>(v.1,v.2.attach.map fun ⟨b,_⟩=>if Ff vs x=true then b else Bg x u b))
termination_by t=>SizeOf.sizeOf t
decreasing_by
 ·exact D8 ‹_›
 ·exact D8 ‹_›
 ·exact E2 ‹_›
 ·exact Fy ‹_› ‹_›
def Er (x:Z8) (u:Ty) (cut:Nat->Bool):Nat->List Ty->List Ty
 | _,[]=>[]
 | i,p :: l=>(if cut i=true then p else Bg x u p) :: Er x u cut (i+1) l
theorem Wn {α:Type}(x:Z8) (u:Ty) (cut:Nat->Bool) (g:α->Ty):∀(l:List α) (j:Nat),(l.mapIdx fun i p=>if cut (i+j)=true then g p else Bg x u (g p))=Er x u cut j (l.map g)
 | [],_=>rfl
 | a :: l,j=>by
  rw[List.mapIdx_cons,List.map_cons,Er,<-Wn x u cut g l (j+1)];simp only[Nat.zero_add,Nat.add_assoc,Nat.add_comm 1 j]
theorem Ii {α β:Type}(f:α->β) (l:List α):(l.attach.map fun a=>f a.1)=l.map f:=by
 have h:(l.attach.map (fun a=>a.1)).map f=l.map f:=by rw[F6]
 rw[List.map_map]at h;exact h
theorem Fb (x:Z8) (u:Ty) (k t n ps fs vs):Bg x u (.mk k t n ps fs vs)=if (k == 16 && decide (t=x))=true then u
  else if (k == 15)=true then Bl (ps.map (Bg x u))
  else .mk k t n (Er x u (fun i=>Ff vs x || Dz k t n ps i x) 0 ps) (fs.map fun f=>(f.1,f.2.1,Bg x u f.2.2)) (vs.map fun v=>(v.1,v.2.map fun b=>if Ff vs x=true then b else Bg x u b)):=by
 rw[Bg];have h:=Wn x u (fun i=>Ff vs x || Dz k t n ps i x) (fun p:{y // y∈ps}=>p.1) ps.attach 0;simp only[Nat.add_zero]at h;rw[F6]at h;have h1:(ps.attach.map fun p=>Bg x u p.1)=ps.map (Bg x u):=Ii (Bg x u) ps;have h2:(fs.attach.map fun f=>(f.1.1,f.1.2.1,Bg x u f.1.2.2))=fs.map fun f=>(f.1,f.2.1,Bg x u f.2.2):=Ii (fun f:Z8×Int×Ty=>(f.1,f.2.1,Bg x u f.2.2)) fs;have h3:(vs.attach.map fun v=>(v.1.1,v.1.2.attach.map fun b=>if Ff vs x=true then b.1 else Bg x u b.1))=vs.map fun v=>(v.1,v.2.map fun b=>if Ff vs x=true then b else Bg x u b):=by
  have e:(fun v:{v // v∈vs}=>(v.1.1,v.1.2.attach.map fun b=>if Ff vs x=true then b.1 else Bg x u b.1))=fun v:{v // v∈vs}=>(v.1.1,v.1.2.map fun b=>if Ff vs x=true then b else Bg x u b):=by
   funext v;rw[Ii (fun b=>if Ff vs x=true then b else Bg x u b) v.1.2]
  rw[e];exact Ii (fun v:Z8×List Ty=>(v.1,v.2.map fun b=>if Ff vs x=true then b else Bg x u b)) vs
 rw[<-h1,<-h2,<-h3,<-h]
theorem P7 (x:Z8) (u:Ty) (cut:Nat->Bool):∀(l:List Ty) (j:Nat),(Er x u cut j l).length=l.length
 | [],_=>rfl
 | _ :: l,j=>by rw[Er,List.length_cons,List.length_cons,P7 x u cut l (j+1)]
theorem Ok {x:Z8}{u:Ty}{cut:Nat->Bool}:∀ {l:List Ty}{j:Nat},(∀p∈l,Bx x p=false->Bg x u p=p)->Fl x cut j l=false->Er x u cut j l=l
 | [],_,_,_=>rfl
 | p :: l,j,hp,h=>by
  rw[Fl,Bool.or_eq_false_iff]at h;rw[Er,Ok (fun q hq=>hp q (List.mem_cons_of_mem _ hq)) h.2];by_cases hc:cut j=true
  ·rw[if_pos hc]
  ·rw[if_neg hc];have h1:Bx x p=false:=by
    have:=h.1;rw[Bool.not_eq_true]at hc;rw[hc]at this;simpa using this
   rw[hp p List.mem_cons_self h1]
def F7 (ps:List Ty):Ty:=.mk 21 Bp 0 (E7 1 :: ps.drop 1) [] []
def Fe (ps:List Ty) (vs:Bw):Ty:=.mk 12 Bp 0 (ps++(vs.map (·.2)).flatten) [] []
def Sq (x:Z8) (ps:List Ty) (i:Nat):Bool:=match ps[i]? with
 | some p=>Bx x p
 | none=>false
def Rr (x:Z8) (u:Ty) (k:Int) (t:Z8) (n:Int) (ps:List Ty) (vs:Bw):Bool:=
 (Ff vs x || !Bx x (Fe ps vs) || !(vs.any fun v=>Bx v.1 u)) &&
 ((!(k == 20) || decide (t=x) || !Sq x ps 1 || !Bx t u) &&
 ((!(k == 21 && n == 1) || decide (t=x) || !Bx x (F7 ps) || !Bx t u) &&
  (!(k == 21) || Dp (E5 ps) x || !Sq x ps 2 || !((E5 ps).any fun y=>Bx y u))))
def E8 (x:Z8) (u:Ty):Ty->Bool
 | .mk k t n ps fs vs=>Rr x u k t n ps vs && ((vs.attach.all fun ⟨v,_⟩=>v.2.attach.all fun ⟨b,_⟩=>E8 x u b) && ((ps.attach.all fun ⟨p,_⟩=>E8 x u p) && (fs.attach.all fun ⟨f,_⟩=>E8 x u f.2.2)))
termination_by t=>SizeOf.sizeOf t
decreasing_by
 ·exact Fy ‹_› ‹_›
 ·exact D8 ‹_›
 ·exact E2 ‹_›
theorem Vv (x:Z8) (u:Ty) (k t n ps fs vs):E8 x u (.mk k t n ps fs vs)=(Rr x u k t n ps vs && ((vs.all fun v=>v.2.all (E8 x u)) && (ps.all (E8 x u) && fs.all fun f=>E8 x u f.2.2))):=by
 rw[E8];have h1:(ps.attach.all fun p=>E8 x u p.1)=ps.all (E8 x u):=El (E8 x u) ps;have h2:(fs.attach.all fun f=>E8 x u f.1.2.2)=fs.all fun f=>E8 x u f.2.2:=El (fun f:Z8×Int×Ty=>E8 x u f.2.2) fs;have h3:(vs.attach.all fun v=>v.1.2.attach.all fun b=>E8 x u b.1)=vs.all fun v=>v.2.all (E8 x u):=by
  have e:(fun v:{v // v∈vs}=>v.1.2.attach.all fun b=>E8 x u b.1)=fun v:{v // v∈vs}=>v.1.2.all (E8 x u):=by
   funext v;exact El (E8 x u) v.1.2
  rw[e];exact El (fun v:Z8×List Ty=>v.2.all (E8 x u)) vs
 rw[h1,h2,h3]
theorem Zx {x:Z8}{u:Ty}{k:Int}{t:Z8}{n:Int}{ps:List Ty}{fs:Bv}{vs:Bw}(h:E8 x u (.mk k t n ps fs vs)=true):Rr x u k t n ps vs=true/\(∀v∈vs,∀b∈v.2,E8 x u b=true)/\(∀p∈ps,E8 x u p=true)/\∀f∈fs,E8 x u f.2.2=true:=by
 rw[Vv,Bool.and_eq_true,Bool.and_eq_true,Bool.and_eq_true,List.all_eq_true,List.all_eq_true,List.all_eq_true]at h;exact⟨h.1,fun v hv b hb=>List.all_eq_true.1 (h.2.1 v hv) b hb,h.2.2.1,h.2.2.2⟩
theorem Jdf {x:Z8}{u:Ty}{k:Int}{t:Z8}{n:Int}{ps:List Ty}{fs:Bv}{vs:Bw}(h1:Rr x u k t n ps vs=true) (h2:∀v∈vs,∀b∈v.2,E8 x u b=true) (h3:∀p∈ps,E8 x u p=true) (h4:∀f∈fs,E8 x u f.2.2=true):E8 x u (.mk k t n ps fs vs)=true:=by
 rw[Vv,Bool.and_eq_true,Bool.and_eq_true,Bool.and_eq_true,List.all_eq_true,List.all_eq_true,List.all_eq_true];exact⟨h1,fun v hv=>List.all_eq_true.2 (h2 v hv),h3,h4⟩
theorem Jdg {x:Z8}{u:Ty}{k:Int}{t:Z8}{n:Int}{ps:List Ty}{vs:Bw}
  (h1:Ff vs x=false->Bx x (Fe ps vs)=true->∀v∈vs,Bx v.1 u=false)
  (h2:k=20->t≠x->Sq x ps 1=true->Bx t u=false)
  (h3:k=21->n=1->t≠x->Bx x (F7 ps)=true->Bx t u=false)
  (h4:k=21->Dp (E5 ps) x=false->Sq x ps 2=true->∀y∈E5 ps,Bx y u=false):Rr x u k t n ps vs=true:=by
 unfold Rr;rw[Bool.and_eq_true,Bool.and_eq_true,Bool.and_eq_true];refine⟨?_,?_,?_,?_⟩
 ·cases e1:Ff vs x with
  | true=>simp
  | false=>
   cases e2:Bx x (Fe ps vs) with
   | false=>simp
   | true=>
    have:=h1 e1 e2;simp only[Bool.false_or,Bool.not_true,Bool.not_eq_true',List.any_eq_false];intro v hv;rw[this v hv];decide
 ·by_cases e0:k=20
  ·by_cases e1:t=x
   ·simp[e1]
   ·cases e2:Sq x ps 1 with
    | false=>simp
    | true=>simp[h2 e0 e1 e2]
  ·simp[e0]
 ·by_cases e0:k=21
  ·by_cases en:n=1
   ·by_cases e1:t=x
    ·simp[e1]
    ·cases e2:Bx x (F7 ps) with
     | false=>simp
     | true=>simp[h3 e0 en e1 e2]
   ·simp[en]
  ·simp[e0]
 ·by_cases e0:k=21
  ·cases e1:Dp (E5 ps) x with
   | true=>simp
   | false=>
    cases e2:Sq x ps 2 with
    | false=>simp
    | true=>
     have:=h4 e0 e1 e2;simp only[Bool.or_false,Bool.not_true,Bool.or_eq_true,Bool.not_eq_true',List.any_eq_false]
     right;intro v hv;rw[this v hv];decide
  ·simp[e0]
theorem Zy {x:Z8}{u:Ty}{k:Int}{t:Z8}{n:Int}{ps:List Ty}{vs:Bw}(h:Rr x u k t n ps vs=true) :
  (Ff vs x=false->Bx x (Fe ps vs)=true->∀v∈vs,Bx v.1 u=false) /\
  (k=20->t≠x->Sq x ps 1=true->Bx t u=false) /\
  (k=21->n=1->t≠x->Bx x (F7 ps)=true->Bx t u=false) /\
  (k=21->Dp (E5 ps) x=false->Sq x ps 2=true->∀y∈E5 ps,Bx y u=false):=by
 unfold Rr at h;rw[Bool.and_eq_true,Bool.and_eq_true,Bool.and_eq_true]at h;obtain⟨h1,h2,h3,h4⟩:=h;refine⟨fun e1 e2 v hv=>?_,fun e0 e1 e2=>?_,fun e0 en e1 e2=>?_,fun e0 e1 e2 y hy=>?_⟩
 ·rw[e1,e2]at h1;simp only[Bool.false_or,Bool.not_true,Bool.not_eq_true',List.any_eq_false]at h1;exact Bool.eq_false_iff.2 (h1 v hv)
 ·subst e0;simp only[e2,decide_eq_false e1]at h2;simpa using h2
 ·subst e0;subst en;simp only[e2,decide_eq_false e1]at h3;simpa using h3
 ·subst e0;simp only[e1,e2]at h4;simp only[beq_self_eq_true,Bool.not_true,Bool.false_or,Bool.not_eq_true',List.any_eq_false]at h4;exact Bool.eq_false_iff.2 (h4 y hy)
theorem Tt {x:Z8}{u:Ty}(t:Ty):(∀y∈Fp t,Bx y u=true->y=x)->E8 x u t=true:=by
 refine Ty.ind (C:=fun t=>(∀y∈Fp t,Bx y u=true->y=x)->E8 x u t=true) (fun k t n ps fs vs hp hf hv h=>?_) t;have hn:∀y,y∈Fp (.mk k t n ps fs vs)->y≠x->Bx y u=false:=fun y hy hD=>Bool.eq_false_iff.2 fun e=>hD (h y hy e);refine Jdf (Jdg (fun e1 _ v hA=>hn _ (Zu hA) fun e=>?_) (fun _ e1 _=>hn _ I5 e1) (fun _ _ e1 _=>hn _ I5 e1) fun _ e1 _ y hy=>hn _ (Rq hy) fun e=>?_) (fun v hA b hb=>hv v hA b hb fun y hy=>h y (Ro hA hb hy)) (fun p hC=>hp p hC fun y hy=>h y (Kd hC hy)) fun f hB=>hf f hB fun y hy=>h y (Rp hB hy)
 ·rw[Bool.eq_false_iff]at e1;exact e1 (List.any_eq_true.2 ⟨v,hA,decide_eq_true e⟩)
 ·rw[Bool.eq_false_iff]at e1;exact e1 (Ej.2 (e ▸ hy))
theorem Jgh (k:Int):Dy (E7 k)=true:=by
 unfold E7;rw[L4];simp
def O4:Ty->List Z8
 | .mk _ t _ ps fs vs=>t :: (vs.map (·.1)++((vs.attach.map fun ⟨v,_⟩=>(v.2.attach.map fun ⟨b,_⟩=>O4 b).flatten).flatten++((ps.attach.map fun ⟨p,_⟩=>O4 p).flatten++(fs.attach.map fun ⟨f,_⟩=>O4 f.2.2).flatten)))
termination_by t=>SizeOf.sizeOf t
decreasing_by
 ·exact Fy ‹_› ‹_›
 ·exact D8 ‹_›
 ·exact E2 ‹_›
theorem Jf9 (k t n ps fs vs):O4 (.mk k t n ps fs vs)=t :: (vs.map (·.1)++((vs.map fun v=>(v.2.map O4).flatten).flatten++((ps.map O4).flatten++(fs.map fun f=>O4 f.2.2).flatten))):=by
 rw[O4];have h1:(ps.attach.map fun p=>O4 p.1).flatten=(ps.map O4).flatten:=Df O4 ps;have h2:(fs.attach.map fun f=>O4 f.1.2.2).flatten=(fs.map fun f=>O4 f.2.2).flatten:=Df (fun f:Z8×Int×Ty=>O4 f.2.2) fs;have h3:(vs.attach.map fun v=>(v.1.2.attach.map fun b=>O4 b.1).flatten).flatten=(vs.map fun v=>(v.2.map O4).flatten).flatten:=by
  have e:(fun v:{v // v∈vs}=>(v.1.2.attach.map fun b=>O4 b.1).flatten)=fun v:{v // v∈vs}=>(v.1.2.map O4).flatten:=by
   funext v;exact Df O4 v.1.2
  rw[e];exact Df (fun v:Z8×List Ty=>(v.2.map O4).flatten) vs
 rw[h1,h2,h3]
def Nh (K:Nat->Prop) (w:World) (t:Ty):Ending->World->Prop:=fun e w'=>∃rs,e=.returned (.tuple #[.agg rs.toArray,.int .i64 0])/\An (fun b=>K b\/w.heap.size<=b) w' t rs/\Below w.heap.size w w'
theorem Xn {K:Nat->Prop}{w:World}{t q:Ty}{cs ds:List Value}(hA:AtP t q) (hr:An K w t cs) (hp:An K w q ds) (hP:∀b,K b->b<w.heap.size) (hE:Co t=true) (hD:Co q=true) :
  Calls Tryz.prog 49 #[.agg cs.toArray,.agg ds.toArray] w (Nh K w (Zh t q)):=by
 have hN:Ai t=true/\Am t<=5000:=by
  unfold Co at hE;rw[Bool.and_eq_true,decide_eq_true_eq]at hE;exact⟨hE.2,by omega⟩
 have hM:Ai q=true/\Am q<=5000:=by
  unfold Co at hD;rw[Bool.and_eq_true,decide_eq_true_eq]at hD;exact⟨hD.2,by omega⟩
 generalize hu:Zh t q=u;have KA:=Hd fun wx (hx:Below w.heap.size w wx)=>hA K wx cs ds (hr.later hx) (hp.later hx) (fun b h=>Nat.lt_of_lt_of_le (hP b h) hx.size) hN.1 hM.1 hN.2 hM.2;rw[hu]at KA;obtain⟨k2,s2,n2,hI,hH,hJ⟩:=u;unfold Nh;clear hN hM hu hA;have hF:=Hd fun wx (hx:Below w.heap.size w wx)=>Fc (hr.later hx);have hG:=Hd fun wx (hx:Below w.heap.size w wx)=>Fc (hp.later hx);rw[hE]at hF;rw[hD]at hG;obtain⟨k,s,n,ps,fs,vs⟩:=t;obtain⟨A,c,A',c',A'',c'',rfl,-⟩:=hr.inv;obtain⟨k3,s3,n3,ps3,fs3,vs3⟩:=q;obtain⟨A3,c3,B3,d3,C3,e3,rfl,-⟩:=hp.inv;simp only[Ao]at hF hG KA ⊢;obtain⟨w1,hB⟩:∃x,x=((w.alloc (.cells #[.int .i64 k,.string s,.int .i64 n,.slice A ps.length c,.slice A' fs.length c',.slice A'' vs.length c''] 26)).alloc (.cells #[.int .i64 k3,.string s3,.int .i64 n3,.slice A3 ps3.length c3,.slice B3 fs3.length d3,.slice C3 vs3.length e3] 26)).alloc (.cells #[.int .i64 0,.string ⟨#[]⟩,.int .i64 0,.slice none 0 0,.slice none 0 0,.slice none 0 0] 26):=⟨_,rfl⟩;obtain⟨g,hO⟩:∃g,g=w.heap.size+2:=⟨_,rfl⟩;have hT:Below w.heap.size w w1:=by rw[hB];exact (((Below.refl _ _).alloc (Nat.le_refl _) _).alloc (by simp) _).alloc (by simp;omega) _
 have hV:w1.heap.size=w.heap.size+3:=by rw[hB];simp
 have hW:w1.heap[w.heap.size]?=some (.cells #[.int .i64 k,.string s,.int .i64 n,.slice A ps.length c,.slice A' fs.length c',.slice A'' vs.length c''] 26 (0,0)):=by rw[hB,Below.heap_alloc _ _ _ (by simp;omega),Below.heap_alloc _ _ _ (by simp)];exact heap_alloc_new w _
 have hY:w1.heap[w.heap.size+1]?=some (.cells #[.int .i64 k3,.string s3,.int .i64 n3,.slice A3 ps3.length c3,.slice B3 fs3.length d3,.slice C3 vs3.length e3] 26 (0,0)):=by
  rw[hB,Below.heap_alloc _ _ _ (by simp)];have h:=heap_alloc_new (w.alloc (.cells #[.int .i64 k,.string s,.int .i64 n,.slice A ps.length c,.slice A' fs.length c',.slice A'' vs.length c''] 26)) (.cells #[.int .i64 k3,.string s3,.int .i64 n3,.slice A3 ps3.length c3,.slice B3 fs3.length d3,.slice C3 vs3.length e3] 26);rw[World.size_alloc]at h;exact h
 have hX:w1.heap[g]?=some (.cells #[.int .i64 0,.string ⟨#[]⟩,.int .i64 0,.slice none 0 0,.slice none 0 0,.slice none 0 0] 26 (0,0)):=by
  rw[hB,hO];have h:=heap_alloc_new ((w.alloc (.cells #[.int .i64 k,.string s,.int .i64 n,.slice A ps.length c,.slice A' fs.length c',.slice A'' vs.length c''] 26)).alloc (.cells #[.int .i64 k3,.string s3,.int .i64 n3,.slice A3 ps3.length c3,.slice B3 fs3.length d3,.slice C3 vs3.length e3] 26)) (.cells #[.int .i64 0,.string ⟨#[]⟩,.int .i64 0,.slice none 0 0,.slice none 0 0,.slice none 0 0] 26);rw[World.size_alloc,World.size_alloc]at h;exact h
 have HB1:=Hd hT;have HS1:=Hd hV;have HX0:=Hd hW;have HY0:=Hd hY;have HX1:=Hd hX;have HW1:=Hd hB;have HG:=Hd hO;have kB:=Hd hP;clear hr hp hP hT hV hW hY hX hB hO hE hD;go_enter Tryz.func49,Tryz.ntmps49;go_upto_region 1 with fail
 rw[<-HW1.o,<-HG.o];obtain⟨x0,x1,x2,x3,x4,x5⟩:=Dw HX0.o;obtain⟨y0,y1,y2,y3,y4,y5⟩:=Dw HY0.o;go_wp2_with fail;refine (hF.o _ HB1.o).mono ?_;rintro e w2 ⟨rfl,hb⟩;have hS:=Hd hb;have hZ:=Hd (HB1.o.trans (hb.mono HB1.o.size));have h2:=Ay hb (by have:=HS1.o;omega) HX0.o;have h3:=Ay hb (by have:=HS1.o;omega) HY0.o;clear x0 x1 x2 x3 x4 x5 y0 y1 y2 y3 y4 y5 hb hF;obtain⟨x0,x1,x2,x3,x4,x5⟩:=Dw h2;obtain⟨y0,y1,y2,y3,y4,y5⟩:=Dw h3;clear h2 h3;go_wp2_with fail;refine (hG.o _ hZ.o).mono ?_;rintro e w3 ⟨rfl,hb⟩;have hC:=Hd (hS.o.trans (hb.mono hS.o.size));have hK:=Hd (HB1.o.trans (hC.o.mono HB1.o.size));have h2:=Ay hC.o (by have:=HS1.o;omega) HX0.o;have h3:=Ay hC.o (by have:=HS1.o;omega) HY0.o;clear x0 x1 x2 x3 x4 x5 y0 y1 y2 y3 y4 y5 hb hG;obtain⟨x0,x1,x2,x3,x4,x5⟩:=Dw h2;obtain⟨y0,y1,y2,y3,y4,y5⟩:=Dw h3;clear h2 h3;go_wp2_with fail;refine (KA.o _ hK.o).mono ?_;rintro e w4 ⟨rs,rfl,hU,hL⟩;have kA:=Hd (hK.o.trans (hL.mono hK.o.size));have kC:=Hd (hC.o.trans (hL.mono hC.o.size));have rb:=Ay kC.o (by have:=HG.o;have:=HS1.o;omega) HX1.o;have hQ:An (fun b=>K b\/g<b) w4 (.mk k2 s2 n2 hI hH hJ) rs:=hU.weak fun b h=>h.imp id fun h=>by have:=HG.o;have:=HS1.o;have:=hC.o.size;omega
 obtain⟨Aq,cq,Ag,cg,Ah,ch,rfl,-⟩:=hQ.inv;have hR:=Hd hQ;simp only[Ao]at hR ⊢;clear hU hL hQ KA x0 x1 x2 x3 x4 x5 y0 y1 y2 y3 y4 y5;obtain⟨q0,q1,q2,q3,q4,q5,z0,z1,z2,z3,z4,z5⟩:=Hr rb;have RBX:=Hd rb;clear rb;go_wp2_with fail;have rs:=Bt RBX.o (.int .i64 k2) (.string s2) (.int .i64 n2) (.slice Aq hI.length cq) (.slice Ag hH.length cg) (.slice Ah hJ.length ch);obtain⟨r0,r1,r2,r3,r4,r5⟩:=Dw rs;clear q0 q1 q2 q3 q4 q5 z0 z1 z2 z3 z4 z5 RBX rs;refine bodyPost_ret (v:=.tuple #[.agg #[.int .i64 k2,.string s2,.int .i64 n2,.slice Aq hI.length cq,.slice Ag hH.length cg,.slice Ah hJ.length ch],.int .i64 0]) (by simp[results,Tryz.results49,go_sem,r0,r1,r2,r3,r4,r5]) rfl ?_;clear r0 r1 r2 r3 r4 r5;exact⟨[.int .i64 k2,.string s2,.int .i64 n2,.slice Aq hI.length cq,.slice Ag hH.length cg,.slice Ah hJ.length ch],rfl,Fw hR.o (fun b h=>by have:=kB.o b h;have:=HG.o;omega) (by have:=HG.o;omega) _ _ _ _ _ _,Bj kA.o (by have:=HG.o;omega) _ _ _ _ _ _⟩
def Gu (K:Nat->Prop) (w:World) (l:List Ty):Ending->World->Prop:=fun e w'=>∃A c,e=.returned (.slice A l.length c)/\Bh (fun b=>K b\/w.heap.size<=b) w' l A c/\Below w.heap.size w w'
theorem Jb0 {K:Nat->Prop}{w:World}(s:Z8) (n:Int) (ps:List Ty) (fs:Bv) (vs:Bw) {cs:List Value}(hr:An K w (.mk 15 s n ps fs vs) cs) (hF:∀b,K b->b<w.heap.size) (hn:ps.length<=1099511627776) :
  Calls Tryz.prog 50 #[.agg cs.toArray] w (Gu K w (ps)):=by
 obtain⟨A,c,A',c',A'',c'',rfl,-,hL,-,-⟩:=hr.inv;simp only[Ao]at hr ⊢;obtain⟨w1,hA⟩:∃x,x=w.alloc (.cells #[.int .i64 15,.string s,.int .i64 n,.slice A ps.length c,.slice A' fs.length c',.slice A'' vs.length c''] 26):=⟨_,rfl⟩;have hB:Below w.heap.size w w1:=by rw[hA];exact (Below.refl _ _).alloc (Nat.le_refl _) _
 have hH:w1.heap.size=w.heap.size+1:=by rw[hA];simp
 have hI:w1.heap[w.heap.size]?=some (.cells #[.int .i64 15,.string s,.int .i64 n,.slice A ps.length c,.slice A' fs.length c',.slice A'' vs.length c''] 26 (0,0)):=by rw[hA];exact heap_alloc_new w _
 have HB1:=Hd hB;have HS1:=Hd hH;have HX0:=Hd hI;have HW1:=Hd hA;have hJ:=Hd hF;have HL:=Hd (hL.later hB);have HR:=Hd (hr.later hB);have HN:=Hd hn;clear hn;unfold Gu;clear hr hF hL hB hH hI hA;go_enter Tryz.func50,Tryz.ntmps50;go_upto_region 1 with fail
 rw[<-HW1.o];obtain⟨x0,x1,x2,x3,x4,x5⟩:=Dw HX0.o;go_wp2_with (at_builtin;refine wpList_plain rfl fun Kx hK=>?_;go_loud (refine G4 (w0:=w1) (ts:=[]) (l:=ps) _ _ rfl (by rfl) (by rfl) ⟨⟨[],World.ownsRow_nil _ _ _ _,fun i h=>absurd h (by simp)⟩⟩ HL.o (Below.refl _ _) (by simpa using HN.o) ?_));intro v3 w3 hG hC _;refine hK _ _ ?_;clear hK Kx;obtain⟨A4,c4,rfl,hE⟩:=hG.list (fun b h=>by have:=hJ.o b h;have:=HS1.o;omega) hC (by have:=HN.o;omega);have hD:=Hd (And.intro hE (HB1.o.trans (hC.mono HB1.o.size)));clear hG hE hC x0 x1 x2 x3 x4 x5;go_wp2_with fail;go_ret
 exact⟨A4,c4,rfl,hD.o.1.weak fun b h=>h.imp id fun h=>by have:=HS1.o;omega,hD.o.2⟩
theorem Jer {K:Nat->Prop}{w:World}(s:Z8) (n:Int) (ps:List Ty) (fs:Bv) (vs:Bw) {cs:List Value}(hr:An K w (.mk 1 s n ps fs vs) cs) (hC:∀b,K b->b<w.heap.size)  :
  Calls Tryz.prog 50 #[.agg cs.toArray] w (Gu K w ([])):=by
 obtain⟨A,c,A',c',A'',c'',rfl,-,hL,-,-⟩:=hr.inv;simp only[Ao]at hr ⊢;obtain⟨w1,hA⟩:∃x,x=w.alloc (.cells #[.int .i64 1,.string s,.int .i64 n,.slice A ps.length c,.slice A' fs.length c',.slice A'' vs.length c''] 26):=⟨_,rfl⟩;have hB:Below w.heap.size w w1:=by rw[hA];exact (Below.refl _ _).alloc (Nat.le_refl _) _
 have hD:w1.heap.size=w.heap.size+1:=by rw[hA];simp
 have hE:w1.heap[w.heap.size]?=some (.cells #[.int .i64 1,.string s,.int .i64 n,.slice A ps.length c,.slice A' fs.length c',.slice A'' vs.length c''] 26 (0,0)):=by rw[hA];exact heap_alloc_new w _
 have HB1:=Hd hB;have HS1:=Hd hD;have HX0:=Hd hE;have HW1:=Hd hA;have hF:=Hd hC;have HL:=Hd (hL.later hB);have HR:=Hd (hr.later hB);unfold Gu;clear hr hC hL hB hD hE hA;go_enter Tryz.func50,Tryz.ntmps50;go_upto_region 1 with fail
 rw[<-HW1.o];obtain⟨x0,x1,x2,x3,x4,x5⟩:=Dw HX0.o;go_wp2_with fail;go_ret
 exact⟨none,0,rfl,⟨0,0,⟨by simp,by simp,fun _=>rfl,fun h=>absurd h (by simp)⟩,fun i h=>absurd h (by simp)⟩,HB1.o⟩
theorem Jb1 {K:Nat->Prop}{w:World}(k:Int) (s:Z8) (n:Int) (ps:List Ty) (fs:Bv) (vs:Bw) {cs:List Value}(hr:An K w (.mk k s n ps fs vs) cs) (hD:∀b,K b->b<w.heap.size) (hC:k≠15) (h1:k≠1) :
  Calls Tryz.prog 50 #[.agg cs.toArray] w (Gu K w ([.mk k s n ps fs vs])):=by
 obtain⟨A,c,A',c',A'',c'',rfl,-,hL,-,-⟩:=hr.inv;simp only[Ao]at hr ⊢;obtain⟨w1,hA⟩:∃x,x=w.alloc (.cells #[.int .i64 k,.string s,.int .i64 n,.slice A ps.length c,.slice A' fs.length c',.slice A'' vs.length c''] 26):=⟨_,rfl⟩;have hB:Below w.heap.size w w1:=by rw[hA];exact (Below.refl _ _).alloc (Nat.le_refl _) _
 have hE:w1.heap.size=w.heap.size+1:=by rw[hA];simp
 have hF:w1.heap[w.heap.size]?=some (.cells #[.int .i64 k,.string s,.int .i64 n,.slice A ps.length c,.slice A' fs.length c',.slice A'' vs.length c''] 26 (0,0)):=by rw[hA];exact heap_alloc_new w _
 have HB1:=Hd hB;have HS1:=Hd hE;have HX0:=Hd hF;have HW1:=Hd hA;have hG:=Hd hD;have HL:=Hd (hL.later hB);have HR:=Hd (hr.later hB);have f1:(k == 15)=false:=beq_eq_false_iff_ne.2 hC;have f2:(k == 1)=false:=beq_eq_false_iff_ne.2 h1;clear hC h1;unfold Gu;clear hr hD hL hB hE hF hA;go_enter Tryz.func50,Tryz.ntmps50;go_upto_region 1 with fail
 rw[<-HW1.o];obtain⟨x0,x1,x2,x3,x4,x5⟩:=Dw HX0.o;go_wp2_with fail;go_ret
 have hH:Below w.heap.size w (w1.alloc (.cells #[.int .i64 k,.string s,.int .i64 n,.slice A ps.length c,.slice A' fs.length c',.slice A'' vs.length c''] 26)):=HB1.o.alloc HB1.o.size _;refine⟨some ⟨w1.heap.size,0,none⟩,1,rfl,?_,hH⟩;have h:=S2 (g:=w1.heap.size) HR.o ((Below.refl _ _).alloc (Nat.le_refl _) _) (fun b h=>by have:=hG.o b h;have:=HS1.o;omega) (heap_alloc_new w1 _);exact h.weak fun b h=>h.imp id fun h=>by have:=HS1.o;omega
