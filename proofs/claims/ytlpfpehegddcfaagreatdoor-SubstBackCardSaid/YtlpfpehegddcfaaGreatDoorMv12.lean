import Derived.Test.YtlpfpehegddcfaaGreatDoorMv10
import Derived.Test.YtlpfpehegddcfaaGreatDoorMv11
namespace Go.Proofs.YtlpfpehegddcfaaGreatDoor
set_option maxRecDepth 100000
set_option maxHeartbeats 64000000
open Go.RowKit
def Ep (l:List Ty):List Ty:=(Bb l).filter fun t=>!(t.k == 1)
theorem Wr {l:List Ty} {i:Nat} (h:i<l.length):Ep (l.take (i+1))=Ep (l.take i)++(Cq l[i]).filter fun t=>!(t.k == 1):=by
 unfold Ep;rw[Ix h,List.filter_append]
theorem Gy {K:Nat->Prop} {w0 w2 w5:World} {v v5:Value} {os:List Ty} {t:Ty} {cs vs:List Value} (hb:Below w0.heap.size w0 w2) (ho:w2.ownsRow w0.heap.size 26 6 v os.length vs) (hr:∀ i (h:i<os.length),∃ cs,RepT K w0 os[i] cs/\∀ j u,cs[j]?=some u->vs[i*6+j]?=some u)
  (ht:RepT K w0 t cs) (hown:w5.ownsRow w0.heap.size 26 6 v5 (os.length+1) (vs++cs)) (hg:(w2.alloc (.cells cs.toArray 26)).grownBy w5 v.ownBlock) :
  OutT K w0 w5 v5 (os++[t])/\Below w0.heap.size w0 w5:=by
 have hl1:w2.heap.size<=(w2.alloc (.cells cs.toArray 26)).heap.size:=by simp
 exact⟨OutT.snoc (ho.1) hr ht hown,(hb.alloc hb.size _).grown hg (Nat.le_trans hb.size hl1) fun k hk=>(ho.lt k hk).1⟩
def Tu (l:List Ty):Prop:=∀ (K:Nat->Prop) (w0 w:World) (A:Option Addr) (c:Nat) (v:Value) (os:List Ty),ListT K w0 l A c->Below w0.heap.size w0 w->OutT K w0 w v os->os.length+(Bb l).length<=1099511627776 ->
 Calls Tryz.prog 57 #[.slice A l.length c,v] w fun e w'=>∃ v',e=.returned v'/\OutT K w0 w' v' (os++Ep l)/\Below w0.heap.size w0 w'
theorem Rr (l:List Ty):(Ep l).length<=(Bb l).length:=List.length_filter_le _ _
theorem Md (l:List Ty) (hp:∀ p∈l,Tu p.ps):Tu l:=by
 intro K w0 w A c v os hL hb hO hbd;have hll:=hL.short;have HL:=Hd hL;have HP:=Hd hp;have HBD:=Hd hbd;have HS0:Hid (OutT K w0 w v os/\Below w0.heap.size w0 w):=Hd ⟨hO,hb⟩;obtain⟨i0,hi0,hz0,hz1,hz2⟩:=D4 Hh;obtain⟨vs0,hvs0,-⟩:=hO;obtain⟨A0,c0,rfl,-⟩:=Gk hvs0;obtain⟨n0,hn0⟩:∃ n0,n0=os.length:=⟨_,rfl⟩;rw[<-hn0] at HS0 hvs0 ⊢;have HN0:=Hd hn0;clear hL hp hbd hb hvs0 hn0;go_enter Tryz.func57,Tryz.ntmps57;go_wp2_with fail
 go_loopw [1,5] (fun ov v wr=>∃ (i:Nat) (acc:List Ty),i<=l.length/\v=.int .i64 i/\acc=os++Ep (l.take i)/\OutT K w0 wr ov acc/\Below w0.heap.size w0 wr) (fun _ v _=>l.length - (intOf v).toNat)
 case atStart=>exact⟨0,os,by omega,rfl,by simp[Ep,Bb],HS0.out.1,HS0.out.2⟩
 case round=>
  obtain⟨i,acc,hi,rfl,hacc,ho,hb⟩:=hrel;have HAcc:=Hd hacc;clear hacc;have HR:=Hd (And.intro ho hb);obtain⟨vs,hvs,hrs⟩:=ho;obtain⟨A1,c1,rfl,-⟩:=Gk hvs;by_cases hin:i<l.length
  ·have t1:decide ((i:Int)<(l.length:Int))=true:=by simp;omega
   have wr2:wrap64 ((i:Int)+1)=((i+1:Nat):Int):=Ao (by omega);have HM:=Hd (Ba hin);obtain⟨b,o,hA,_,hat⟩:=HL.out.at (by omega);have hti:=hat i hin;have hpi:=HP.out _ (List.getElem_mem hin);have htk:=Wr hin;have hft:=Ix hin;have hsp:=Kr l (i+1);have hle:=Rr (l.take i);subst hA;generalize l[i]=t at hti hpi htk hft;obtain⟨k,s,n,ps,fs,ws⟩:=t;obtain⟨cs,hcs,hrep⟩:=hti;obtain⟨Ap,cp,Af,cf,Av,cv,rfl,-,hLp,-,-⟩:=hrep.inv;have HREP:=Hd hrep;have x0:wr.cell? ⟨b,o+i*6,none⟩=some (.int .i64 k):=Aa hb (hcs 0 _ rfl);have x1:=Aa hb (hcs 1 _ rfl);have x2:=Aa hb (hcs 2 _ rfl);have x3:=Aa hb (hcs 3 _ rfl);have x4:=Aa hb (hcs 4 _ rfl);have x5:=Aa hb (hcs 5 _ rfl);have HIn:Hid (i+1<=l.length):=Hd hin;have HTk:=Hd htk;have HOw:=Hd (And.intro hvs hrs);have HLen:Hid (acc.length+(Cq (.mk k s n ps fs ws)).length<=1099511627776):=Hd (by
    have h1:=HBD.out;rw[hsp,hft] at h1;rw[HAcc.out];simp only[List.length_append] at h1 ⊢;omega)
   by_cases h15:k=15
   ·subst h15;have KF:=Hd (hpi K w0 wr Ap cp _ _ hLp hb HR.out.1 (by have:=HLen.out;rw[Ck,if_pos rfl] at this;exact this));simp only[Ty.ps] at KF;clear hpi htk hft hle hsp hcs hrep hLp hvs hrs hb hi x1 x2 x4 x5;go_wp2_with fail;refine KF.out.mono ?_;rintro e w2 ⟨v2,rfl,ho2,hb2⟩;have HR2:=Hd (And.intro ho2 hb2);clear ho2 hb2 KF;go_wp2_with fail;refine⟨⟨i+1,_,HIn.out,by first | rfl | rw[wr2],?p1,HR2.out.1,HR2.out.2⟩,?p3⟩
    case p1=>rw[HTk.out,HAcc.out,Ck,if_pos rfl,List.append_assoc];rfl
    case p3=>first | exact HM.out | (rw[wr2];exact HM.out)
   ·have t15:(k == 15)=false:=(by simpa using h15);by_cases h1:k=1
    ·subst h1;clear hpi htk hft hle hsp hcs hrep hLp hvs hrs hb hi;go_wp2_with fail;refine⟨⟨i+1,acc,HIn.out,by first | rfl | rw[wr2],?p1,HR.out.1,HR.out.2⟩,?p3⟩
     case p1=>
      rw[HTk.out,HAcc.out,Ck,if_neg (by decide)];have e:([Ty.mk 1 s n ps fs ws].filter fun t=>!(t.k == 1))=[]:=rfl;rw[e,List.append_nil]
     case p3=>first | exact HM.out | (rw[wr2];exact HM.out)
    ·have tn1:(k != 1)=true:=(by simpa using h1);have hkp:(k == 1)=false:=(by simpa using h1);have HKP:=Hd hkp;have HC2:=Hd (Dn wr [.int .i64 k,.string s,.int .i64 n,.slice Ap ps.length cp,.slice Af fs.length cf,.slice Av ws.length cv] 26);have HL1:Hid (acc.length+1<=1099511627776):=Hd (by have:=HLen.out;rw[Ck,if_neg h15] at this;simpa using this);have HB:=Hd hb;clear hpi htk hft hle hsp hcs hrep hLp hvs hrs hi hb hkp;go_wp2_with (at_builtin;refine wpList_plain rfl fun K hK=>?_;go_loud (refine Bz _ _ 22 rfl w0.heap.size 26 i0 (.agg #[.int .i64 0,.string ⟨#[]⟩,.int .i64 0,.slice none 0 0,.slice none 0 0,.slice none 0 0]) 6 104 Tryz.underlying22 hi0 hz0 hz1 hz2 rfl (by decide) _ _ _ rfl (HOw.out.1.alloc _) ⟨wr.heap.size,0,none⟩ 1 1 [.int .i64 k,.string s,.int .i64 n,.slice Ap ps.length cp,.slice Af fs.length cf,.slice Av ws.length cv] rfl rfl ?a0 ?a1 ?a2 ?a3 ?a4 ?_))
     case a0=>exact HC2.out
     case a1=>
      intro u hu;simp only[List.mem_cons,List.not_mem_nil,or_false] at hu;rcases hu with rfl | rfl | rfl | rfl | rfl | rfl <;> rfl
     case a2=>have:=HL1.out;unfold maxLen;omega
     case a3=>have:=HL1.out;omega
     case a4=>have:=HB.out.size;simp only[World.size_alloc];omega
     intro v5 w5 hown5 hg5 _ _;refine hK _ _ ?_;clear hK K;have HR5:=Hd (Gy HB.out HOw.out.1 HOw.out.2 HREP.out hown5 hg5);clear hown5 hg5 x0 x1 x2 x3 x4 x5;go_wp2_with fail;refine⟨⟨i+1,_,HIn.out,by first | rfl | rw[wr2],?p1,HR5.out.1,HR5.out.2⟩,?p3⟩
     case p1=>
      rw[HTk.out,HAcc.out,Ck,if_neg h15,List.append_assoc];have e:([Ty.mk k s n ps fs ws].filter fun t=>!(t.k == 1))=[Ty.mk k s n ps fs ws]:=(by simp[Ty.k,HKP.out]);rw[e]
     case p3=>first | exact HM.out | (rw[wr2];exact HM.out)
  ·have t1:decide ((i:Int)<(l.length:Int))=false:=by simp;omega
   have HE:Hid (l.take i=l):=Hd (List.take_of_length_le (by omega));clear hi hvs hrs hb;go_wp2_with fail;go_ret
   have h1:=HR.out;have h2:=HAcc.out;rw[HE.out] at h2;rw[<-h2];exact⟨.slice A1 acc.length c1,rfl,h1.1,h1.2⟩
theorem V3 (l:List Ty):Tu l:=Md l fun p _=>Ty.ind (C:=fun t=>Tu t.ps) (fun _ _ _ ps _ _ hp _ _=>Md ps hp) p
theorem R1 (k:Int) (hk:(Ae k).known=true):∃ lo hi,Ae k=⟨false,false,false,false,lo,hi,true⟩\/Ae k=⟨false,true,false,false,lo,hi,true⟩\/Ae k=⟨true,false,false,false,lo,hi,true⟩\/Ae k=⟨false,false,false,true,lo,hi,true⟩\/Ae k=⟨false,false,true,false,lo,hi,true⟩\/Ae k=⟨true,true,false,false,lo,hi,true⟩:=by
 unfold Ae at hk ⊢;by_cases h:1<=k/\k<=8
 ·simp only[if_pos h];exact⟨0,0,(.inl rfl)⟩
 simp only[if_neg h] at hk ⊢;clear h;by_cases h:k=9
 ·simp only[if_pos h];exact⟨0,0,(.inr (.inl rfl))⟩
 simp only[if_neg h] at hk ⊢;clear h;by_cases h:k=10\/k=16\/k=22
 ·simp only[if_pos h];exact⟨0,0,(.inr (.inr (.inl rfl)))⟩
 simp only[if_neg h] at hk ⊢;clear h;by_cases h:k=11\/k=18
 ·simp only[if_pos h];exact⟨1,1,(.inl rfl)⟩
 simp only[if_neg h] at hk ⊢;clear h;by_cases h:k=12
 ·simp only[if_pos h];exact⟨0,(-1),(.inl rfl)⟩
 simp only[if_neg h] at hk ⊢;clear h;by_cases h:k=13
 ·simp only[if_pos h];exact⟨1,(-1),(.inr (.inr (.inr (.inl rfl))))⟩
 simp only[if_neg h] at hk ⊢;clear h;by_cases h:k=14
 ·simp only[if_pos h];exact⟨0,0,(.inr (.inr (.inr (.inr (.inl rfl)))))⟩
 simp only[if_neg h] at hk ⊢;clear h;by_cases h:k=15\/k=23
 ·simp only[if_pos h];exact⟨2,(-1),(.inl rfl)⟩
 simp only[if_neg h] at hk ⊢;clear h;by_cases h:k=17
 ·simp only[if_pos h];exact⟨0,(-1),(.inr (.inr (.inl rfl)))⟩
 simp only[if_neg h] at hk ⊢;clear h;by_cases h:k=19
 ·simp only[if_pos h];exact⟨2,2,(.inl rfl)⟩
 simp only[if_neg h] at hk ⊢;clear h;by_cases h:k=20
 ·simp only[if_pos h];exact⟨2,2,(.inr (.inr (.inr (.inr (.inr rfl)))))⟩
 simp only[if_neg h] at hk ⊢;clear h;by_cases h:k=21
 ·simp only[if_pos h];exact⟨4,4,(.inr (.inr (.inr (.inr (.inr rfl)))))⟩
 simp only[if_neg h] at hk ⊢;clear h
 cases hk
theorem Yi {k:Int} (hk:(Ae k).known=true) {w:World} {b o np nf nv c1 c2 c3:Nat} {t:ByteArray} {n:Int} {A1 A2 A3:Option Addr} (x1:w.cell? ⟨b,o+1,none⟩=some (.string t)) (x2:w.cell? ⟨b,o+2,none⟩=some (.int .i64 n)) (x3:w.cell? ⟨b,o+3,none⟩=some (.slice A1 np c1)) (x4:w.cell? ⟨b,o+4,none⟩=some (.slice A2 nf c2)) (x5:w.cell? ⟨b,o+5,none⟩=some (.slice A3 nv c3)) :
  Calls Tryz.prog 95 #[Cc (Ae k),.pointer (some ⟨b,o,none⟩)] w fun e w'=>e=.returned (.bool (Aj (Ae k) t n np nf nv))/\Below w.heap.size w w':=by
 obtain⟨lo,hi,h⟩:=R1 k hk;rcases h with h | h | h | h | h | h
 ·rw[h];exact Vx x1 x2 x3 x4 x5
 ·rw[h];exact V0 x1 x2 x3 x4 x5
 ·rw[h];exact V1 x1 x2 x3 x4 x5
 ·rw[h];exact Vy x1 x2 x3 x4 x5
 ·rw[h];exact Vz x1 x2 x3 x4 x5
 ·rw[h];exact V2 x1 x2 x3 x4 x5
def Fu (t:Ty) (r:Bool):Prop:=∀ (K:Nat->Prop) (w:World) (b o:Nat),AtT K w t b o->Calls Tryz.prog 64 #[.pointer (some ⟨b,o,none⟩)] w fun e w'=>e=.returned (.bool r)/\Below w.heap.size w w'
def E9 (t:Ty) (r:Bool):Prop:=∀ (K:Nat->Prop) (w:World) (b o:Nat),AtT K w t b o->Calls Tryz.prog 96 #[.pointer (some ⟨b,o,none⟩)] w fun e w'=>e=.returned (.bool r)/\Below w.heap.size w w'
theorem P4 {α:Type} {l:List α} {p:α->Bool} {i:Nat} (h:i<l.length):(l.drop i).all p=(p l[i] && (l.drop (i+1)).all p):=by rw[List.drop_eq_getElem_cons h,List.all_cons]
theorem Wg (k:Int) (t:ByteArray) (n:Int) (ps:List Ty) (fs:Bp) (vs:Bm) (sv:Bool) (fv:Ty->Bool) (hs:E9 (.mk k t n ps fs vs) sv) (hp:∀ p∈ps,Fu p (fv p)) :
  Fu (.mk k t n ps fs vs) ((Ae k).known && Aj (Ae k) t n ps.length fs.length vs.length && sv && ps.all fv):=by
 intro K w b o h;obtain⟨A,c,A2,c2,A3,c3,⟨x0,x1,x2,x3,x4,x5⟩,-,hP,-⟩:=h.six;have KS:=Hd (W5 k w);have KF:Hid ((Ae k).known=true->∀ wx,Below w.heap.size w wx->Calls Tryz.prog 95 #[Cc (Ae k),.pointer (some ⟨b,o,none⟩)] wx fun e w'=>e=.returned (.bool (Aj (Ae k) t n ps.length fs.length vs.length))/\Below wx.heap.size wx w'):=Hd fun hk wx hx=>Yi hk (Aa hx x1) (Aa hx x2) (Aa hx x3) (Aa hx x4) (Aa hx x5);have KX:Hid (∀ wx,Below w.heap.size w wx->Calls Tryz.prog 96 #[.pointer (some ⟨b,o,none⟩)] wx fun e w'=>e=.returned (.bool sv)/\Below wx.heap.size wx w'):=Hd fun wx hx=>hs K wx b o (h.later hx);have HX:Hid (∀ wx,Below w.heap.size w wx->wx.cell? ⟨b,o+3,none⟩=some (.slice A ps.length c)):=Hd fun wx hx=>Aa hx x3;have HN:Hid (∀ wx i (hi:i<ps.length),Below w.heap.size w wx->∃ pb po,A=some ⟨pb,po,none⟩/\Calls Tryz.prog 64 #[.pointer (some ⟨pb,po+i*6,none⟩)] wx fun e w'=>e=.returned (.bool (fv ps[i]))/\Below wx.heap.size wx w'):=Hd fun wx i hi hx=>by
  obtain⟨pb,po,hA,_,hr⟩:=hP.at (by omega);exact⟨pb,po,hA,hp _ (List.getElem_mem hi) K wx pb _ ((hr i hi).later hx)⟩
 have hlp:=hP.short;clear h hs hp hP x1 x2 x3 x4 x5;generalize Aj (Ae k) t n ps.length fs.length vs.length=fb at KF ⊢;generalize Ae k=s at KS KF ⊢;obtain⟨st,sn,sf,s4,lo,hi,kn⟩:=s;simp only[Cc] at KS KF ⊢
 cases kn with
 | false=>
  clear KF KX HX HN;go_enter Tryz.func64,Tryz.ntmps64;go_wp2_with fail;refine KS.out.mono ?_;rintro e w1 ⟨rfl,hb1⟩;have HB1:=Hd hb1;clear hb1;go_wp2_with fail;go_ret
  exact⟨rfl,HB1.out.alloc HB1.out.size _⟩
 | true=>
  have KF2:Hid (∀ wx,Below w.heap.size w wx->Calls Tryz.prog 95 #[.agg #[.bool st,.bool sn,.bool sf,.bool s4,.int .i64 lo,.int .i64 hi],.pointer (some ⟨b,o,none⟩)] wx fun e w'=>e=.returned (.bool fb)/\Below wx.heap.size wx w'):=Hd (KF.out rfl);clear KF;go_enter Tryz.func64,Tryz.ntmps64;go_wp2_with fail;refine KS.out.mono ?_;rintro e w1 ⟨rfl,hb1⟩;have HB1:Hid (Below w.heap.size w (w1.alloc (.cells #[.bool st,.bool sn,.bool sf,.bool s4,.int .i64 lo,.int .i64 hi] 138))):=Hd (hb1.alloc hb1.size _);clear hb1 KS;go_wp2_with fail;refine (KF2.out _ HB1.out).mono ?_;rintro e w2 ⟨rfl,hb2⟩;have HB2:=Hd (Cp HB1.out hb2);clear hb2 KF2
  cases fb with
  | false=>
   go_wp2_with fail;go_ret
   exact⟨rfl,HB2.out⟩
  | true=>
   go_wp2_with fail;refine (KX.out _ HB2.out).mono ?_;rintro e w3 ⟨rfl,hb3⟩;have HB3:=Hd (Cp HB2.out hb3);clear hb3 KX
   cases sv with
   | false=>
    go_wp2_with fail;go_ret
    exact⟨rfl,HB3.out⟩
   | true=>
    have y3:=HX.out _ HB3.out;go_wp2_with fail;clear y3
    go_loopw [32] (fun v wr=>∃ (i:Nat),i<=ps.length/\v=.int .i64 i/\ps.all fv=(ps.drop i).all fv/\Below w.heap.size w wr) (fun v _=>ps.length - (intOf v).toNat)
    case atStart=>exact⟨0,by omega,rfl,by rw[List.drop_zero],HB3.out⟩
    case round=>
     obtain⟨i,hi,rfl,he,hbr⟩:=hrel;have HE:=Hd he;have HBr:=Hd hbr;have y3:=HX.out _ hbr;clear he hbr;by_cases hin:i<ps.length
     ·have t1:decide ((i:Int)<(ps.length:Int))=true:=(by simp;omega);have wr2:wrap64 ((i:Int)+1)=((i+1:Nat):Int):=Ao (by omega);obtain⟨pb,po,hA,hN⟩:=HN.out _ i hin HBr.out;have KN:=Hd hN;have HS:=Hd (P4 (p:=fv) hin);have HM:=Hd (Ba hin);have HIn:=Hd hin;subst hA;generalize hr:fv ps[i]=r at KN HS;clear hN hi hr;go_wp2_with fail;refine KN.out.mono ?_;rintro e w4 ⟨rfl,hb4⟩;have HB4:=Hd (Cp HBr.out hb4);clear hb4 y3
      cases r with
      | false=>
       go_wp2_with fail;go_ret
       exact⟨by rw[HE.out,HS.out];rfl,HB4.out⟩
      | true=>
       go_wp2_with fail;refine⟨⟨i+1,HIn.out,by first | rfl | rw[wr2],by rw[HE.out,HS.out];rfl,HB4.out⟩,?_⟩;first | exact HM.out | (rw[wr2];exact HM.out)
     ·have t1:decide ((i:Int)<(ps.length:Int))=false:=(by simp;omega);have HE1:Hid (ps.all fv=true):=Hd (by rw[HE.out,List.drop_eq_nil_of_le (by omega)];rfl);clear hi y3;go_wp2_with fail;go_ret
      exact⟨by rw[HE1.out];rfl,HBr.out⟩
open Go.Shelf Go.RowKit Go.Lib Go.Sort
def TyC (K:Nat->Prop) (w0:World):Type:={p:Ty×List Value // RepT K w0 p.1 p.2}
instance (K:Nat->Prop) (w0:World):Inhabited (TyC K w0):=⟨⟨(E7 1,_),Kb K w0⟩⟩
def Le {K:Nat->Prop} {w0:World} (x:TyC K w0):List Value:=x.1.2
def cfC {K:Nat->Prop} {w0:World} (x y:TyC K w0):Int:=Bt x.1.1 y.1.1
theorem Mb {K:Nat->Prop} {w0:World} (x:TyC K w0):(Le x).length=6:=x.2.six
theorem Ya {K:Nat->Prop} {w0:World} (x:TyC K w0):∀ v∈Le x,v.oneCell'=true:=by
 obtain⟨⟨⟨k,s,n,ps,fs,vs⟩,cs⟩,h⟩:=x;obtain⟨A,c,A',c',A'',c'',rfl,_⟩:=h.inv;intro v hv;simp only[Le,Ar,List.mem_cons,List.not_mem_nil,or_false] at hv;rcases hv with rfl | rfl | rfl | rfl | rfl | rfl <;> rfl
theorem Z8 {K:Nat->Prop} {w0:World} {x y:TyC K w0}:ltOf cfC x y=true↔Bt x.1.1 y.1.1<0:=by
 unfold ltOf;exact decide_eq_true_iff
theorem Rm {K:Nat->Prop} {w0:World} {x y:TyC K w0}:ltOf cfC x y=false↔0<=Bt x.1.1 y.1.1:=by
 unfold ltOf;exact decide_eq_false_iff_not.trans Int.not_lt
theorem lt_trans {a b c:Ty} (h1:Bt a b<0) (h2:Bt b c<0):Bt a c<0:=by
 rcases F2 a b with e | e | e
 ·rcases F2 b c with e' | e' | e'
  ·rw[Ff e e'];decide
  ·omega
  ·omega
 ·omega
 ·omega
theorem Jfw (K:Nat->Prop) (w0:World):SWO (ltOf (cfC (K:=K) (w0:=w0))) where
 irrefl x:=Rm.2 (by rw[Di.2 rfl];decide)
 trans x y z h1 h2:=Z8.2 (lt_trans (Z8.1 h1) (Z8.1 h2))
 ntrans x y z h1 h2:=Rm.2 (Jc5 (Rm.1 h1) (Rm.1 h2))
theorem Jfn {K:Nat->Prop} {w0 w:World} {g size:Nat} (hb:Below w0.heap.size w0 w) (hg:w0.heap.size<=g):CmpLays Tryz.prog 101 #[] (Le (K:=K) (w0:=w0)) 6 cfC g 0 size w:=by
 intro m os dk _ x y;have hk:∀ b o v,K b->w0.cell? ⟨b,o,none⟩=some v->(sortWorldK (Le (K:=K) (w0:=w0)) 6 w g 0 m dk os).cell? ⟨b,o,none⟩=some v:=fun b o v _ hc=>by
  have hlt:b<w0.heap.size:=World.block_lt_of_cell? _ _ hc;rw[cell?_sortWorldK_other _ _ _ _ _ _ _ _ ⟨b,o,none⟩ (by show b≠g;omega) (Nat.lt_of_lt_of_le hlt hb.size)];exact Aa hb hc
 exact U6 (RepT.keep (fun _ h=>h) hk _ _ x.2) (RepT.keep (fun _ h=>h) hk _ _ y.2)
theorem J2 {α:Type} [Inhabited α] {enc:α->List Value} {w:World} {g m:Nat} {dk:Array α} {os:Array Obj}:(sortWorldK enc 6 w g 0 m dk os).heap=(w.heap.modify g (onCells (putCells id 0 (flatK enc 6 dk))))++os:=rfl
theorem Xw {α:Type} [Inhabited α] {enc:α->List Value} {w:World} {g m:Nat} {dk:Array α} {os:Array Obj} {cur:Array Value} {T:TypeId} (hb:w.heap[g]?=some (.cells cur T (0,0))):∃ cur',(sortWorldK enc 6 w g 0 m dk os).heap[g]?=some (.cells cur' T (0,0))/\cur'.size=cur.size:=by
 have hlt:=(Array.getElem?_eq_some_iff.1 hb).1;refine⟨putCells id 0 (flatK enc 6 dk) cur,?_,by simp[putCells]⟩;rw[J2,Array.getElem?_append_left (by simpa using hlt),Array.getElem?_modify,if_pos rfl,hb];rfl
theorem Ti {α:Type} [Inhabited α] {enc:α->List Value} {w0 w:World} {g m:Nat} {dk:Array α} {os:Array Obj} (hb:RowKit.Below w0.heap.size w0 w) (hg:w0.heap.size<=g):RowKit.Below w0.heap.size w0 (sortWorldK enc 6 w g 0 m dk os):=by
 have h1:=hb.size;refine⟨hb.os,hb.tape,hb.output,?_,fun k hk=>?_⟩
 ·rw[J2];simp;omega
 ·rw[J2,Array.getElem?_append_left (by simp;omega),Array.getElem?_modify,if_neg (by omega)];exact hb.block k hk
theorem Ss {K:Nat->Prop} {w:World} {t:Ty} {cs:List Value} {r:Bool} (h:RepT K w t cs) (hf:Fu t r) :
  Calls Tryz.prog 35 #[.agg cs.toArray] w fun e w'=>e=.returned (.bool (decide (Ai t<=4096) && r))/\Below w.heap.size w w':=by
 have hb1:Below w.heap.size w (w.alloc (.cells cs.toArray 26)):=(Below.refl _ _).alloc (Nat.le_refl _) _;have KN:=Hd (J5 (h.later hb1));have KF:=Hd fun wx hx=>hf K wx w.heap.size 0 ((AtT.box 26 h).later hx);have HB1:=Hd hb1;have HC:Hid (decide (((Cg (Ai t):Nat):Int)<=4096)=decide (Ai t<=4096)):=Hd (by unfold Cg;congr 1;rw[eq_iff_iff];omega);obtain⟨k,s,n,ps,fs,vs⟩:=t;obtain⟨A,c,A',c',A'',c'',rfl,_⟩:=h.inv;generalize Cg (Ai (.mk k s n ps fs vs))=q at KN HC;generalize decide (Ai (.mk k s n ps fs vs)<=4096)=d at HC ⊢;simp only[Ar] at KN KF HB1 ⊢;clear h hf hb1
 cases d with
 | false=>
  have hq:¬ ((q:Int)<=4096):=by have h:=HC.out;simpa using h
  have hq2:¬ (q<=4096):=by omega
  go_enter Tryz.func35,Tryz.ntmps35;go_wp2_with fail;refine KN.out.mono ?_;rintro e w1 ⟨rfl,hb1⟩;have HB2:=Hd (Cp HB1.out hb1);clear hb1 KN;go_wp2_with fail;go_ret
  exact⟨rfl,HB2.out⟩
 | true=>
  have hq:((q:Int)<=4096):=by have h:=HC.out;simpa using h
  have hq2:(q<=4096):=by omega
  go_enter Tryz.func35,Tryz.ntmps35;go_wp2_with fail;refine KN.out.mono ?_;rintro e w1 ⟨rfl,hb1⟩;have HB2:=Hd (Cp HB1.out hb1);have KF2:=Hd (KF.out _ hb1);clear hb1 KN KF;go_wp2_with fail;refine KF2.out.mono ?_;rintro e w2 ⟨rfl,hb2⟩;have HB3:=Hd (Cp HB2.out hb2);clear hb2;go_wp2_with fail;go_ret
  exact⟨rfl,HB3.out⟩
theorem Jdh (t:ByteArray) (n:Int) (ps:List Ty) (fs:Bp) (vs:Bm):E9 (.mk 15 t n ps fs vs) (Hi ps):=by
 intro K w b o h;obtain⟨A,c,_,_,_,_,⟨x0,-,-,x3,-,-⟩,-,hP,-⟩:=h.six;have KU:=Hd (Jcx hP);clear h hP;generalize Hi ps=r at KU ⊢;go_enter Tryz.func96,Tryz.ntmps96;go_wp2_with fail;refine KU.out.mono ?_;rintro e w2 ⟨rfl,hb2⟩;have HB2:=Hd hb2;clear hb2;go_wp2_with fail;go_ret
 exact⟨rfl,HB2.out⟩
def K8 (vs:Bm) (i:Nat):ByteArray->Option Unit:=fun s=>if ((vs.take i).any fun x=>decide (x.1=s))=true then some () else none
theorem Tf {vs:Bm} {i:Nat} (h:i<vs.length):Ho (K8 vs i) vs[i].1 ()=K8 vs (i+1):=by
 funext s;unfold Ho K8;rw[List.take_succ_eq_append_getElem h,List.any_append];by_cases e:vs[i].1=s
 ·simp[e]
 ·have e2:decide (vs[i].1=s)=false:=decide_eq_false e;rw[if_neg e];simp only[List.any_cons,List.any_nil,e2,Bool.or_false]
theorem Tg {vs:Bm} {i:Nat} (s:ByteArray):(K8 vs i s).isSome=(vs.take i).any fun x=>decide (x.1=s):=by
 unfold K8
 split
 ·rename_i h;rw[h];rfl
 ·rename_i h;rw[Bool.not_eq_true] at h;rw[h];rfl
theorem Jk {p:Nat->Bool} {i:Nat} (h:∀ j,j<i->p j=true) (h2:p i=true):∀ j,j<i+1->p j=true:=fun j hj=>by
 rcases Nat.lt_or_ge j i with h1 | h1
 ·exact h j h1
 ·rw[show j=i from by omega];exact h2
structure VaR (w wr:World) (vs:Bm) (fv:Ty->Bool) (i:Nat):Prop where
 le:i<=vs.length
 ok:∀ j,j<i->okV (C3 vs fv) j=true
 map:MapIs G1 wr w.heap.size i (K8 vs i)
 below:Below w.heap.size w wr
theorem Mi {K:Nat->Prop} {w:World} {vs:Bm} {A:Option Addr} {c:Nat} {fv:Ty->Bool} (hV:ListV K w vs A c) (hf:∀ v∈vs,∀ b∈v.2,Fu b (fv b)) :
  Calls Tryz.prog 135 #[.slice A vs.length c] w fun e w'=>e=.returned (.bool (Dy (C3 vs fv)))/\Below w.heap.size w w':=by
 have HV:=Hd hV;have HF:=Hd hf;have hlv:vs.length<=1000000000000000:=by obtain⟨_,_,hr,_⟩:=hV;exact hr.big
 have HST:Hid (VaR w (w.alloc (.map #[] 0)) vs fv 0):=Hd ⟨Nat.zero_le _,fun j hj=>absurd hj (by omega),by
  have h:=MapIs.new G1 w;have e:K8 vs 0=fun _=>none:=by funext s;simp[K8]
  rw[e];exact h,(Below.refl _ _).alloc (Nat.le_refl _) _⟩
 have hmm:=@run_makeMap Tryz.prog;clear hV hf;go_enter Tryz.func135,Tryz.ntmps135;go_wp2_with fail;clear hmm
 go_loopw [11] (fun v wr=>∃ i:Nat,v=.int .i64 (i:Int)/\VaR w wr vs fv i) (fun v _=>vs.length - (intOf v).toNat)
 case atStart=>exact⟨0,rfl,HST.out⟩
 case round=>
  obtain⟨i,rfl,hr⟩:=hrel;have HR:=Hd hr;have hle:=hr.le;by_cases hlt:i<vs.length
  ·have t1:decide ((i:Int)<(vs.length:Int))=true:=by simp;omega
   have wr2:wrap64 ((i:Int)+1)=((i+1:Nat):Int):=Ao (by omega);have HM:=Hd (Ba hlt);obtain⟨b,o,hA,_,hat⟩:=HV.out.at (by omega);subst hA;obtain⟨B,d,hc0,hc1,hsz,hLB⟩:=hat i hlt;have hok:=Jam (fv:=fv) hlt;have hnx:=Tf hlt;have hFb:∀ b∈vs[i].2,Fu b (fv b):=HF.out _ (List.getElem_mem hlt);have hsm:=Tg (vs:=vs) (i:=i) vs[i].1;generalize hnm:vs[i].1=nm at hc0 hok hnx hsz hsm;generalize hl:vs[i].2=l at hc1 hLB hok hFb;have hcw0:=Aa (w:=w) (w':=wr) hr.below hc0;have hcw1:=Aa (w:=w) (w':=wr) hr.below hc1;have hbx:Below wr.heap.size wr (wr.alloc (.cells #[.string nm,.slice B l.length d] 62)):=(Below.refl _ _).alloc (Nat.le_refl _) _;have hmx:nm.size<=maxLen:=by unfold maxLen;omega
   have lk:(Instr.lookup 186 (.map (some w.heap.size)) (.string nm) true).run Tryz.prog (wr.alloc (.cells #[.string nm,.slice B l.length d] 62))=.ok (.tuple #[.agg #[],.bool ((vs.take i).any fun x=>decide (x.1=nm))]) (wr.alloc (.cells #[.string nm,.slice B l.length d] 62)):=by
    rw[<-hsm];exact (hr.map.later hbx).look2 nm hmx
   generalize hseen:((vs.take i).any fun x=>decide (x.1=nm))=seen at lk hok;clear hat hc0 hc1 hnm hl hsm hseen
   cases seen with
   | true=>
    have HNO:Hid (Dy (C3 vs fv)=false):=Hd (Fy (by rw[Fg];exact hlt) (by rw[hok];simp));have HB9:=Hd hr.below;clear hr hle hok hnx;go_wp2_with fail;go_ret
    exact⟨by rw[HNO.out];rfl,(HB9.out.alloc HB9.out.size _).alloc (by have:=HB9.out.size;simp;omega) _⟩
   | false=>
    have HSZ:Hid (wr.heap.size<=((wr.alloc (.cells #[.string nm,.slice B l.length d] 62)).alloc (.cells #[] 193)).heap.size):=Hd (by simp;omega);have hbw2:Below wr.heap.size wr ((wr.alloc (.cells #[.string nm,.slice B l.length d] 62)).alloc (.cells #[] 193)):=hbx.alloc (by simp) _;have HSZ2:Hid (w.heap.size<=((wr.alloc (.cells #[.string nm,.slice B l.length d] 62)).alloc (.cells #[] 193)).heap.size):=Hd (by have:=hr.below.size;have:=hbw2.size;omega);have HBW:=Hd (hr.below.trans (hbw2.mono hr.below.size));have HMP:=Hd (hr.map.later hbw2);have hbk:((wr.alloc (.cells #[.string nm,.slice B l.length d] 62)).alloc (.cells #[] 193)).heap[wr.heap.size]?=some (.cells #[.string nm,.slice B l.length d] 62 (0,0)):=by
     rw[((Below.refl (wr.alloc (.cells #[.string nm,.slice B l.length d] 62)).heap.size _).alloc (Nat.le_refl _) (.cells #[] 193)).block _ (by simp)];exact heap_alloc_new wr _
    have HX0:Hid (((wr.alloc (.cells #[.string nm,.slice B l.length d] 62)).alloc (.cells #[] 193)).cell? ⟨wr.heap.size,0,none⟩=some (.string nm)):=Hd (cell_of_row _ _ 0 _ _ _ hbk);have HX1:Hid (((wr.alloc (.cells #[.string nm,.slice B l.length d] 62)).alloc (.cells #[] 193)).cell? ⟨wr.heap.size,1,none⟩=some (.slice B l.length d)):=Hd (cell_of_row _ _ 1 _ _ _ hbk);have KN:=Hd (Eu nm ((wr.alloc (.cells #[.string nm,.slice B l.length d] 62)).alloc (.cells #[] 193)) hsz);have HGL:Hid (w.heap.size<wr.heap.size):=Hd hr.map.lt;have HLT:Hid (i<maxLen):=Hd (by unfold maxLen;omega);have HMX:=Hd hmx;have HLE:Hid (i+1<=vs.length):=Hd hlt;clear hbw2 hbk
    cases hq:Bo nm with
    | false=>
     rw[hq] at KN;have HNO:Hid (Dy (C3 vs fv)=false):=Hd (Fy (by rw[Fg];exact hlt) (by rw[hok];simp[hq]));clear hok hnx hr hle;go_wp2_with fail;refine KN.out.mono ?_;rintro e w3 ⟨rfl,hb3⟩;have HB3:=Hd (HBW.out.trans (hb3.mono HSZ2.out));clear hb3;go_wp2_with fail;go_ret
     exact⟨by rw[HNO.out];rfl,HB3.out⟩
    | true=>
     rw[hq] at KN
     match l,hLB,hFb with
     | [],hLB,hFb=>
      clear hLB hFb;simp only[List.length_nil] at *;clear hr hle;go_wp2_with fail;refine KN.out.mono ?_;rintro e w3 ⟨rfl,hb3⟩;have HB3:=Hd (HBW.out.trans (hb3.mono HSZ2.out));have y0:=Aa hb3 HX0.out;have y1:=Aa hb3 HX1.out;obtain⟨w4,hup,hm4,hg4⟩:=(HMP.out.later hb3).putL HLT.out nm HMX.out ();have hup2:(Instr.mapUpdate 186 (.map (some w.heap.size)) (.string nm) (.agg #[])).run Tryz.prog w3=.ok () w4:=hup;have hblk:w4.heap[wr.heap.size]?=w3.heap[wr.heap.size]?:=hg4.block _ (World.block_lt_of_cell? _ _ y0) (by have:=HGL.out;simp only[ne_eq,Option.some.injEq];omega);have z0:=(World.cell?_of_block (a:=⟨wr.heap.size,0,none⟩) hblk).trans y0;have z1:=(World.cell?_of_block (a:=⟨wr.heap.size,1,none⟩) hblk).trans y1;have hB4:Below w.heap.size w w4:=HB3.out.grown hg4 HB3.out.size (fun k hk=>by simp only[Option.some.injEq] at hk;omega);rw[hnx] at hm4;have HM4:=Hd hm4;have HB4:=Hd hB4;clear hb3 hup hm4 hg4 hblk hB4 hnx;have HOK:Hid (okV (C3 vs fv) i=true):=Hd (by rw[hok];simp[hq]);clear hok;go_wp2_with fail;refine⟨⟨i+1,by first | rfl | rw[wr2],HLE.out,Jk HR.out.ok HOK.out,HM4.out,HB4.out⟩,?_⟩;first | exact HM.out | (rw[wr2];exact HM.out)
     | [x],hLB,hFb=>
      obtain⟨bb,bo,rfl,-,hel0⟩:=hLB.at (by simp);have hel:AtT K w x bb bo:=(by have h:=hel0 0 (by simp);simpa using h);have hfx:=hFb x (List.mem_singleton.2 rfl);clear hLB hFb hel0;simp only[List.length_cons,List.length_nil,Nat.zero_add] at *;clear hr hle;go_wp2_with fail;refine KN.out.mono ?_;rintro e w3 ⟨rfl,hb3⟩;have HB3:=Hd (HBW.out.trans (hb3.mono HSZ2.out));have y0:=Aa hb3 HX0.out;have y1:=Aa hb3 HX1.out;obtain⟨w4,hup,hm4,hg4⟩:=(HMP.out.later hb3).putL HLT.out nm HMX.out ();have hup2:(Instr.mapUpdate 186 (.map (some w.heap.size)) (.string nm) (.agg #[])).run Tryz.prog w3=.ok () w4:=hup;have hblk:w4.heap[wr.heap.size]?=w3.heap[wr.heap.size]?:=hg4.block _ (World.block_lt_of_cell? _ _ y0) (by have:=HGL.out;simp only[ne_eq,Option.some.injEq];omega);have z0:=(World.cell?_of_block (a:=⟨wr.heap.size,0,none⟩) hblk).trans y0;have z1:=(World.cell?_of_block (a:=⟨wr.heap.size,1,none⟩) hblk).trans y1;have hB4:Below w.heap.size w w4:=HB3.out.grown hg4 HB3.out.size (fun k hk=>by simp only[Option.some.injEq] at hk;omega);rw[hnx] at hm4;have HM4:=Hd hm4;have HB4:=Hd hB4;clear hb3 hup hm4 hg4 hblk hB4 hnx;have KF:=Hd (hfx K w4 bb bo (hel.later HB4.out));have HOKE:Hid (okV (C3 vs fv) i=fv x):=Hd (by rw[hok];simp[hq]);clear hok hel hfx;generalize fv x=r at KF HOKE;go_wp2_with fail;refine KF.out.mono ?_;rintro e w5 ⟨rfl,hb5⟩;have HB5:=Hd (Cp HB4.out hb5);have HM5:=Hd (HM4.out.later hb5);clear hb5
      cases r with
      | false=>
       have HNO:Hid (Dy (C3 vs fv)=false):=Hd (Fy (by rw[Fg];exact HLE.out) HOKE.out);go_wp2_with fail;go_ret
       exact⟨by rw[HNO.out];rfl,HB5.out⟩
      | true=>
       go_wp2_with fail;refine⟨⟨i+1,by first | rfl | rw[wr2],HLE.out,Jk HR.out.ok HOKE.out,HM5.out,HB5.out⟩,?_⟩;first | exact HM.out | (rw[wr2];exact HM.out)
     | x :: y :: l,hLB,hFb=>
      clear hLB hFb;have e2:(x :: y :: l).length=l.length+2:=rfl;have t3:1<l.length+2:=(by omega);have t3b:decide ((1:Int)<((l.length+2:Nat):Int))=true:=(by simp;omega);simp only[List.length_cons] at *;have HNO:Hid (Dy (C3 vs fv)=false):=Hd (Fy (by rw[Fg];exact hlt) (by rw[hok];simp[hq]));clear hok hnx hr hle;go_wp2_with fail;refine KN.out.mono ?_;rintro e w3 ⟨rfl,hb3⟩;have HB3:=Hd (HBW.out.trans (hb3.mono HSZ2.out));have y1:=Aa hb3 HX1.out;clear hb3;go_wp2_with fail;go_ret
      exact⟨by rw[HNO.out];rfl,HB3.out⟩
  ·have t1:decide ((i:Int)<(vs.length:Int))=false:=by simp;omega
   have HYES:Hid (Dy (C3 vs fv)=true):=Hd (Eb.2 fun j hj=>hr.ok j (by rw[Fg] at hj;omega));have HB9:=Hd hr.below;clear hr hle HR;go_wp2_with fail;go_ret
   exact⟨by rw[HYES.out];rfl,HB9.out⟩
def Jel (s:ByteArray) (l:List (ByteArray×Ty)):List Ty:=(l.filter fun f=>decide (f.1=s)).map (·.2)
theorem Jc2 (w:World):Calls Tryz.prog 178 #[.int .u64 0] w fun e w'=>e=.returned (.int .i64 0)/\w'=w:=by
 have e0:wrap64 (Lib.len8 0)=0:=by kernel_rfl
 have e1:wrap64 0=0:=by kernel_rfl
 go_enter Tryz.func178,Tryz.ntmps178;go_wp2_with fail;go_ret
 exact⟨rfl,rfl⟩
theorem Jeh (w:World):Calls Tryz.prog 140 #[.int .u64 0] w fun e w'=>e=.returned (.int .i64 0)/\w'=w:=by
 go_enter Tryz.func140,Tryz.ntmps140;go_wp2_with fail;refine (Jc2 _).mono ?_;rintro e w' ⟨rfl,hw⟩;obtain rfl:=hw.symm;go_wp2_with fail;go_ret
 exact⟨rfl,rfl⟩
theorem Jcy (w:World) (A:Option Addr) (c:Nat):Calls Tryz.prog 191 #[.slice A 0 c,.int .i64 0,.int .i64 0] w fun e w'=>e=.returned (.tuple #[])/\w'=w:=by
 go_enter Tryz.func191,Tryz.ntmps191;go_wp2_with fail
 go_loopw [6] (fun v wr=>v=.int .i64 1/\wr=w) (fun _ _=>0)
 case atStart=>exact⟨rfl,rfl⟩
 case round=>
  obtain⟨rfl,rfl⟩:=hrel;go_wp2_with fail
  go_end0
  exact⟨rfl,rfl⟩
theorem Jff (w:World) (A:Option Addr) (c:Nat):Calls Tryz.prog 168 #[.slice A 0 c,.int .i64 0,.int .i64 0,.int .i64 0] w fun e w'=>e=.returned (.tuple #[])/\w'=w:=by
 go_enter Tryz.func168,Tryz.ntmps168;go_wp2_with fail
 go_loopw [1,2,3,8,9] (fun a b l x y wr=>a=.int .i64 0/\b=.int .i64 0/\l=.int .i64 0/\x=.bool true/\y=.bool true/\wr=w) (fun _ _ _ _ _ _=>0)
 case atStart=>exact⟨rfl,rfl,rfl,rfl,rfl,rfl⟩
 case round=>
  obtain⟨rfl,rfl,rfl,rfl,rfl,rfl⟩:=hrel;go_wp2_with fail;refine (Jcy _ _ _).mono ?_;rintro e w' ⟨rfl,hw⟩;obtain rfl:=hw.symm;go_wp2_with fail;exact bodyPost_ret (v:=.tuple #[]) (by simp[results,Tryz.results168,go_sem]) rfl ⟨rfl,rfl⟩
theorem Jez (w:World) (A:Option Addr) (c:Nat):Calls Tryz.prog 133 #[.slice A 0 c] w fun e w'=>e=.returned (.tuple #[])/\w'=w:=by
 go_enter Tryz.func133,Tryz.ntmps133;go_wp2_with fail;refine (Jeh _).mono ?_;rintro e w' ⟨rfl,hw⟩;obtain rfl:=hw.symm;go_wp2_with fail;refine (Jff _ _ _).mono ?_;rintro e w' ⟨rfl,hw⟩;obtain rfl:=hw.symm;go_wp2_with fail
 go_end0
 exact⟨rfl,rfl⟩
theorem Vq (w:World) (A:Option Addr) (c:Nat):Calls Tryz.prog 134 #[.slice A 0 c] w fun e w'=>e=.returned (.slice A 0 c)/\w'=w:=by
 go_enter Tryz.func134,Tryz.ntmps134;go_wp2_with fail;go_ret
 exact⟨rfl,rfl⟩
mutual
def Ud (F:ByteArray->Option Ty):Ty->Ty
 | .mk k s n ps fs vs=>if k=22/\(F s).isSome then (F s).getD (E7 2) else if k=15 then Bi (Sm F k 0 ps) else .mk k s n (Sm F k 0 ps) (Ye F fs) vs
termination_by t=>SizeOf.sizeOf t
decreasing_by all_goals (simp;try omega)
def Sm (F:ByteArray->Option Ty) (k:Int):Nat->List Ty->List Ty
 | _,[]=>[]
 | i,p :: l=>(if k=21/\i=1 then p else Ud F p) :: Sm F k (i+1) l
termination_by _ l=>SizeOf.sizeOf l
decreasing_by all_goals (simp;try omega)
def Ye (F:ByteArray->Option Ty):Bp->Bp
 | []=>[]
 | (a,b,t) :: l=>(a,b,Ud F t) :: Ye F l
termination_by l=>SizeOf.sizeOf l
decreasing_by all_goals (simp;try omega)
end
mutual
def N5 (F:ByteArray->Option Ty):Ty->Nat
 | .mk k s _ ps fs vs=>if k=22/\(F s).isSome then Ai ((F s).getD (E7 2)) else 1+(Yg F k 0 ps+(Yf F fs+Be vs))
termination_by t=>SizeOf.sizeOf t
decreasing_by all_goals (simp;try omega)
def Yg (F:ByteArray->Option Ty) (k:Int):Nat->List Ty->Nat
 | _,[]=>0
 | i,p :: l=>(if k=21/\i=1 then Ai p else N5 F p)+Yg F k (i+1) l
termination_by _ l=>SizeOf.sizeOf l
decreasing_by all_goals (simp;try omega)
def Yf (F:ByteArray->Option Ty):Bp->Nat
 | []=>0
 | (_,_,t) :: l=>N5 F t+Yf F l
termination_by l=>SizeOf.sizeOf l
decreasing_by all_goals (simp;try omega)
end
variable {F:ByteArray->Option Ty}
def ErrPost (w:World) (z:Int):Ending->World->Prop:=fun e w'=>e=.returned (.tuple #[.agg #[.int .i64 0,.string ⟨#[]⟩,.int .i64 0,.slice none 0 0,.slice none 0 0,.slice none 0 0],.int .i64 z])/\Below w.heap.size w w'
def RightPost (K:Nat->Prop) (w:World) (t:Ty):Ending->World->Prop:=fun e w'=>∃ rs,e=.returned (.tuple #[.agg rs.toArray,.int .i64 0])/\RepT (fun b=>K b\/w.heap.size<=b) w' t rs/\Below w.heap.size w w'
def Je4 (w:World) (u:Ty) (z:Int):Ending->World->Prop:=fun e w'=>∃ rs,e=.returned (.tuple #[.agg rs.toArray,.int .i64 z])/\RepT (fun b=>b<w'.heap.size) w' u rs/\Below w.heap.size w w'
theorem ListD.weak {K K':Nat->Prop} {w:World} {l:List (ByteArray×Ty)} {A:Option Addr} {c:Nat} (h:ListD K w l A c) (hk:∀ b,K b->K' b):ListD K' w l A c:=by
 obtain⟨b,o,h1,h2⟩:=h;refine⟨b,o,⟨h1.le,h1.big,h1.none,fun h=>⟨(h1.some h).1,hk _ (h1.some h).2⟩⟩,fun i hi=>?_⟩;obtain⟨h3,h4,cs,h5,h6⟩:=h2 i hi;exact⟨h3,h4,cs,h5,h6.weak hk⟩
theorem ListD.vals {K:Nat->Prop} {w:World} {L:List (ByteArray×Ty)} {A:Option Addr} {c:Nat} (h:ListD K w L A c):∃ V:Nat->Value,V 0=.agg #[.int .i64 0,.string ⟨#[]⟩,.int .i64 0,.slice none 0 0,.slice none 0 0,.slice none 0 0]/\∃ b o,(0<L.length->A=some ⟨b,o,none⟩/\K b)/\∀ i (hi:i<L.length),w.cell? ⟨b,o+i*7,none⟩=some (.string L[i].1)/\L[i].1.size<=1000000000000000/\∃ cs:List Value,V (i+1)=.agg cs.toArray/\RepT K w L[i].2 cs/\∀ j u,cs[j]?=some u->w.cell? ⟨b,o+i*7+1+j,none⟩=some u:=by
 obtain⟨b,o,h1,h2⟩:=h;have hch:∀ i:Nat,∃ v:Value,∀ hi:i<L.length,∃ cs:List Value,v=.agg cs.toArray/\RepT K w L[i].2 cs/\∀ j u,cs[j]?=some u->w.cell? ⟨b,o+i*7+1+j,none⟩=some u:=fun i=>by
  by_cases hi:i<L.length
  ·obtain⟨_,_,cs,h5,h6⟩:=h2 i hi;exact⟨.agg cs.toArray,fun _=>⟨cs,rfl,h6,h5⟩⟩
  ·exact⟨.agg #[],fun h=>absurd h hi⟩
 refine⟨fun i=>match i with
  | 0=>.agg #[.int .i64 0,.string ⟨#[]⟩,.int .i64 0,.slice none 0 0,.slice none 0 0,.slice none 0 0]
  | i+1=>Classical.choose (hch i),rfl,b,o,h1.some,fun i hi=>?_⟩
 obtain⟨h3,h4,-⟩:=h2 i hi;exact⟨h3,h4,Classical.choose_spec (hch i) hi⟩
open Go.Shelf Go.RowKit Go.Lib Go.Sort
theorem Jcw:∀ w,(isAgg (Hn.t 24)).run Tryz.prog w=.ok true w:=fun _=>by kernel_rfl
theorem Jbc:∀ w,(Go.sizeOf (Hn.t 24)).run Tryz.prog w=.ok 6 w:=fun _=>by kernel_rfl
theorem Jcc:∀ args w,(callFunc 101 args).run Tryz.prog w=.ok (.enter 101 args) w:=enters_of Tryz.func101 (by kernel_rfl) rfl
theorem Jbf:Jd8:=by
 intro K w0 w g c l h hb hg hbd
 classical
 have hex:∀ i:Fin l.length,∃ x:TyC K w0,x.1.1=l[i]/\∀ (j:Nat) (u:Value),(Le x)[j]?=some u->w.cell? ⟨g,i.1*6+j,none⟩=some u:=fun i=>by
  obtain⟨cs,h1,h2⟩:=h.reps i.1 l[i] (List.getElem?_eq_getElem i.2);exact⟨⟨(l[i],cs),h1⟩,rfl,h2⟩
 obtain⟨f,hf⟩:∃ f:Fin l.length->TyC K w0,∀ i,(f i).1.1=l[i]/\∀ (j:Nat) (u:Value),(Le (f i))[j]?=some u->w.cell? ⟨g,i.1*6+j,none⟩=some u:=⟨fun i=>(hex i).choose,fun i=>(hex i).choose_spec⟩;obtain⟨d,hd⟩:∃ d:Array (TyC K w0),d=Array.ofFn f:=⟨_,rfl⟩;have hds:d.size=l.length:=by rw[hd];simp
 have hdi:∀ i (hi:i<l.length),d[i]! = f ⟨i,hi⟩:=fun i hi=>by rw[getElem!_pos d i (by omega)];simp[hd]
 have hdl:d.toList.map (fun x=>x.1.1)=l:=by
  refine List.ext_getElem (by simpa using hds) fun i h1 h2=>?_;rw[List.getElem_map,Array.getElem_toList];have:=hdi i h2;rw[getElem!_pos d i (by omega)] at this;rw[this,(hf ⟨i,h2⟩).1];rfl
 have hH:HoldsK Le 6 w g 0 d:=by
  intro t ht;have ht':t<d.size*6:=by simpa using ht
  have hi:t / 6<l.length:=by omega
  have hj:t % 6<6:=by omega
  have hlen:=Mb (f ⟨t / 6,hi⟩);refine⟨?_,(h.there (j:=0+t) (by have:=h.le;omega)).2⟩;rw[get_flatK _ _ _ _ ht',hdi _ hi];have h3:=(hf ⟨t / 6,hi⟩).2 (t % 6) _ (List.getElem?_eq_getElem (by omega));rw[show (⟨t / 6,hi⟩:Fin l.length).1*6+t % 6=0+t from by show t / 6*6+t % 6=_;omega] at h3;rw[h3,getElem!_pos _ _ (by omega)];rfl
 have main:=AnyQ.slices_SortFunc Jbd 6 Jcw Jbc Le Mb Ya cfC (Jfw K w0) 101 #[] g 0 c d w Jcc (Jfn hb hg) hH h.lt (by omega);rw[hds] at main;refine main.mono ?_;rintro e w' ⟨rfl,d',n,os,hp,hs,rfl⟩;have hsz:d'.size=l.length:=hp.1.trans hds;have hperm:d'.toList.Perm d.toList:=by
  have h3:=hp.2.2;have e1:(d'.extract 0 l.length).toList=d'.toList:=by rw[<-hsz];simp
  have e2:(d.extract 0 l.length).toList=d.toList:=by rw[<-hds];simp
  rwa [e1,e2] at h3
 refine⟨rfl,Ti hb hg,d'.toList.map (fun x=>x.1.1),?_,?_,by simpa using hsz,?_⟩
 ·refine List.pairwise_map.2 (List.pairwise_iff_getElem.2 fun i j hi hj hij=>?_);have hi':i<d'.size:=by simpa using hi
  have hj':j<d'.size:=by simpa using hj
  have h4:=Rm.1 (hs i j (Nat.zero_le _) hij (by omega));rw[getElem!_pos d' i hi',getElem!_pos d' j hj',Ea] at h4;simp only[Array.getElem_toList];omega
 ·intro x;rw[<-hdl];exact (hperm.map _).mem_iff
 ·have hH':=holdsK_sortWorldK (Le (K:=K) (w0:=w0)) 6 w g 0 n d d' os h.lt hH (hsz.trans hds.symm);obtain⟨cur,hc1,hc2⟩:=h.blk;obtain⟨cur',hc3,hc4⟩:=Xw (enc:=Le (K:=K) (w0:=w0)) (m:=n) (dk:=d') (os:=os) hc1;refine⟨by rw[List.length_map,Array.length_toList,hsz];exact h.le,h.mx,⟨cur',hc3,hc4.trans hc2⟩,fun i t hi=>?_⟩;obtain⟨hlt,rfl⟩:=List.getElem?_eq_some_iff.1 hi;have hlt':i<d'.size:=by simpa using hlt
  refine⟨Le d'[i],by rw[List.getElem_map,Array.getElem_toList];exact d'[i].2,fun j u hj=>?_⟩;obtain⟨hj1,hj2⟩:=List.getElem?_eq_some_iff.1 hj;have h6:=Mb d'[i];have h7:=(hH'.cell (i:=i) (c:=j) hlt' (by omega)).1;rw[Nat.zero_add,getElem!_pos d' i hlt',getElem!_pos _ j hj1,hj2] at h7;exact h7
end Go.Proofs.YtlpfpehegddcfaaGreatDoor
