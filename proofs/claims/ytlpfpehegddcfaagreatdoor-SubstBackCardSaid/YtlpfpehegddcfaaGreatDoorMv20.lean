import Derived.Test.YtlpfpehegddcfaaGreatDoorMv19
namespace Go.Proofs.YtlpfpehegddcfaaGreatDoor
set_option maxRecDepth 100000
set_option maxHeartbeats 64000000
open Go.RowKit
noncomputable def Jem (V:Nat->Value) (v:Value) (h:∃ i,V i=v):Nat:=Classical.choose h
theorem Oe (V:Nat->Value) (v:Value) (h:∃ i,V i=v):V (Jem V v h)=v:=Classical.choose_spec h
open Classical in
noncomputable def Jfl (V:Nat->Value) (h0:V 0=.agg #[.int .i64 0,.string ⟨#[]⟩,.int .i64 0,.slice none 0 0,.slice none 0 0,.slice none 0 0]):MK Tryz.prog Nat where
 T:=67
 S:=9
 E:=26
 val:=V
 dat:=fun i=>.lit (.int .i64 (Jem V (V i) ⟨i,rfl⟩))
 zero:=0
 R:=fun v=>if h:∃ i,V i=v then some (.lit (.int .i64 (Jem V v h)),[]) else none
 hR:=fun i=>by
  have h:∃ j,V j=V i:=⟨i,rfl⟩;rw[dif_pos h]
 inv:=by
  intro v a ps h;by_cases hv:∃ i,V i=v
  ·rw[dif_pos hv] at h;simp only[Option.some.injEq,Prod.mk.injEq,DataW.lit.injEq,Lit.int.injEq,true_and,Int.natCast_inj] at h;have h1:=Oe V v hv;have h2:=Oe V (V a) ⟨a,rfl⟩;rw[h.1,h2] at h1;exact h1.symm
  ·rw[dif_neg hv] at h
   cases h
 hS:=Tryz.underlying9
 hT:=Tryz.underlying67
 hz:=fun W=>by
  show (zeroValue 26).run _ W=.ok (V 0) W;rw[h0];exact Tryz.zeroValue26 W
def Yh:List (ByteArray×Ty)->ByteArray->Option Nat
 | [],_=>none
 | f :: l,s=>if f.1=s then some 1 else (Yh l s).map (· + 1)
structure FilM (K:Nat->Prop) (w:World) (m n:Nat) (V:Nat->Value) (h0:V 0=.agg #[.int .i64 0,.string ⟨#[]⟩,.int .i64 0,.slice none 0 0,.slice none 0 0,.slice none 0 0]) (L:List (ByteArray×Ty)):Prop where
 box:w.heap[m+1]?=some (.cells #[.map (some m),.int .i64 n] 69 (0,0))
 map:MapIs (Jfl V h0) w m L.length (Yh L)
 val:∀ i (h:i<L.length),∃ cs:List Value,V (i+1)=.agg cs.toArray/\RepT K w L[i].2 cs
def Ad (t:Ty):Prop:=∀ (K:Nat->Prop) (w:World) (cs:List Value),RepT K w t cs->Ai t<=1000000->Calls Tryz.prog 38 #[.agg cs.toArray] w fun e w'=>e=.returned (.bool (Ab t))/\Below w.heap.size w w'
theorem U7 {l:List Ty} {i:Nat} (h:i<l.length):(l.drop i).all Ab=(Ab l[i] && (l.drop (i+1)).all Ab):=by rw[List.drop_eq_getElem_cons h];rfl
theorem Tx (l:List Ty) (h:∀ p∈l,Ad p) {K:Nat->Prop} {w:World} {A:Option Addr} {c:Nat} (hL:ListT K w l A c) (hc:An l<=1000000) :
  Calls Tryz.prog 69 #[.slice A l.length c] w fun e w'=>e=.returned (.bool (l.all Ab))/\Below w.heap.size w w':=by
 have HL:=Hd hL;have HH:=Hd h;have HC:=Hd hc;have hll:=hL.short;clear hL h hc;go_enter Tryz.func69,Tryz.ntmps69;go_wp2_with fail
 go_loopw [3] (fun v wr=>∃ (i:Nat),i<=l.length/\v=.int .i64 i/\l.all Ab=(l.drop i).all Ab/\Below w.heap.size w wr) (fun v _=>l.length - (intOf v).toNat)
 case atStart=>exact⟨0,by omega,rfl,by rw[List.drop_zero],Below.refl _ _⟩
 case round=>
  obtain⟨i,hi,rfl,he,hb⟩:=hrel;have HE:=Hd he;have HB:=Hd hb;clear he hb;by_cases hin:i<l.length
  ·have t1:decide ((i:Int)<(l.length:Int))=true:=by simp;omega
   have wr2:wrap64 ((i:Int)+1)=((i+1:Nat):Int):=Ao (by omega);have HM:=Hd (Ba hin);obtain⟨b,o,hA,_,hat⟩:=HL.out.at (by omega);have hti:=hat i hin;have hpi:=HH.out _ (List.getElem_mem hin);have HS:=Hd (U7 hin);have hci:=Nat.le_trans (Gn (List.getElem_mem hin)) HC.out;have HIn:Hid (i+1<=l.length):=Hd hin;subst hA;generalize l[i]=t at hti hpi HS hci;obtain⟨cs,hcs,hrep⟩:=hti;have KI:=Hd (hpi K wr cs (hrep.later HB.out) hci);generalize Ab t=q at HS KI;obtain⟨k2,s2,n2,ps2,fs2,vs2⟩:=t;obtain⟨Aq,cq,Ag,cg,Ah,ch,rfl,-⟩:=hrep.inv;have y0:=Aa HB.out (hcs 0 _ rfl);have y1:=Aa HB.out (hcs 1 _ rfl);have y2:=Aa HB.out (hcs 2 _ rfl);have y3:=Aa HB.out (hcs 3 _ rfl);have y4:=Aa HB.out (hcs 4 _ rfl);have y5:=Aa HB.out (hcs 5 _ rfl);rw[Nat.add_zero] at y0;simp only[Ar] at KI;clear hi hat hpi hcs hrep hci;go_wp2_with fail;refine KI.out.mono ?_;rintro e w2 ⟨rfl,hb2⟩;have HB2:=Hd (Cp HB.out hb2);clear hb2 KI y0 y1 y2 y3 y4 y5
   cases q with
   | true=>
    go_wp2_with fail;refine⟨⟨i+1,HIn.out,by first | rfl | rw[wr2],by rw[HE.out,HS.out];rfl,HB2.out⟩,?_⟩;first | exact HM.out | (rw[wr2];exact HM.out)
   | false=>
    go_wp2_with fail;go_ret
    exact⟨by rw[HE.out,HS.out];rfl,HB2.out⟩
  ·have t1:decide ((i:Int)<(l.length:Int))=false:=by simp;omega
   have HE1:Hid (l.all Ab=true):=Hd (by rw[HE.out,List.drop_eq_nil_of_le (by omega)];rfl);clear hi;go_wp2_with fail;go_ret
   exact⟨by rw[HE1.out];rfl,HB.out⟩
theorem Qg:∀ {l:Bm} {v:ByteArray×List Ty},v∈l->An v.2<=Be l
 | a :: l,v,h=>by
  have e:Be (a :: l)=An a.2+Be l:=by simp[Be]
  rw[e];rcases List.mem_cons.1 h with rfl | h
  ·omega
  ·have:=Qg h;omega
theorem Xs {l:Bm} {i:Nat} {nm:ByteArray} (h:∀ j (hj:j<l.length),j<i->l[j].1≠nm):((l.take i).any fun x=>decide (x.1=nm))=false:=by
 rw[List.any_eq_false];intro x hx;obtain⟨j,hj,rfl⟩:=List.getElem_of_mem hx;simp only[List.length_take] at hj;rw[List.getElem_take];simpa using h j (by omega) (by omega)
theorem Xt {l:Bm} {i j:Nat} {nm:ByteArray} (hj:j<l.length) (hji:j<i) (h:l[j].1=nm):((l.take i).any fun x=>decide (x.1=nm))=true:=by
 rw[List.any_eq_true];refine⟨l[j],?_,by simpa using h⟩;have:(l.take i)[j]'(by simp;omega)=l[j]:=List.getElem_take;rw[<-this];exact List.getElem_mem _
theorem Vb (l:Bm) (h:∀ v∈l,∀ b∈v.2,Ad b) {K:Nat->Prop} {w:World} {A:Option Addr} {c:Nat} (hL:ListV K w l A c) (hll:l.length<=1000000000000000) (hc:Be l<=1000000) :
  Calls Tryz.prog 71 #[.slice A l.length c] w fun e w'=>e=.returned (.bool (Dy (C3 l Ab)))/\Below w.heap.size w w':=by
 have HL:=Hd hL;have HH:=Hd h;have HC:=Hd hc;clear hL h hc;go_enter Tryz.func71,Tryz.ntmps71;go_wp2_with fail
 go_loopw [3] (fun v wr=>∃ (i:Nat),i<=l.length/\v=.int .i64 i/\(∀ j,j<i->okV (C3 l Ab) j=true)/\Below w.heap.size w wr) (fun v _=>l.length - (intOf v).toNat)
 case atStart=>exact⟨0,by omega,rfl,fun j hj=>absurd hj (by omega),Below.refl _ _⟩
 case round=>
  obtain⟨i,hi,rfl,he,hb⟩:=hrel;have HE:=Hd he;have HB:=Hd hb;clear he hb;by_cases hin:i<l.length
  ·have t1:decide ((i:Int)<(l.length:Int))=true:=by simp;omega
   have wr2:wrap64 ((i:Int)+1)=((i+1:Nat):Int):=Ao (by omega);have HM:=Hd (Ba hin);obtain⟨b,o,hA,hat⟩:∃ b o,A=some ⟨b,o,none⟩/\∀ i (h:i<l.length),∃ B d,w.cell? ⟨b,o+i*2,none⟩=some (.string l[i].1)/\w.cell? ⟨b,o+i*2+1,none⟩=some (.slice B l[i].2.length d)/\l[i].1.size<=1000000000000000/\ListT K w l[i].2 B d:=by
    obtain⟨b,o,h1,h2⟩:=HL.out;exact⟨b,o,(h1.some (by omega)).1,h2⟩
   obtain⟨B,d,hc0,hc1,hsz,hT⟩:=hat i hin;have HOK:=Hd (Jam (fv:=Ab) hin);subst hA;have HNO:Hid (okV (C3 l Ab) i=false->Dy (C3 l Ab)=false):=Hd fun e=>by unfold Dy;exact Fy (by rw[Fg];exact hin) e
   have HCell:Hid (∀ k (h:k<l.length),∃ q,q=l[k].1/\w.cell? ⟨b,o+k*2,none⟩=some (.string q)):=Hd fun k h=>⟨_,rfl,(by obtain⟨B,d,h1,-⟩:=hat k h;exact h1)⟩;have KAll:=Hd fun wx (hx:Below w.heap.size w wx)=>Tx l[i].2 (HH.out _ (List.getElem_mem hin)) (hT.later hx) (Nat.le_trans (Qg (List.getElem_mem hin)) HC.out);generalize l[i].1=nm at hc0 hsz HOK;generalize l[i].2=bs at hc1 hT HOK KAll;have x0:=Aa HB.out hc0;have x1:=Aa HB.out hc1;have KN:=Hd (Jj nm wr hsz);have hbl:=hT.short;have HX:Hid (∀ wx,Below w.heap.size w wx->wx.cell? ⟨b,o+i*2,none⟩=some (.string nm)/\wx.cell? ⟨b,o+i*2+1,none⟩=some (.slice B bs.length d)):=Hd fun wx hx=>⟨Aa hx hc0,Aa hx hc1⟩;have HIn:Hid (i+1<=l.length):=Hd hin;clear hi hT hc0 hc1 hat;go_wp2_with fail;refine KN.out.mono ?_;rintro e w2 ⟨rfl,hb2⟩;have HB2:=Hd (Cp HB.out hb2);obtain⟨y0,y1⟩:=HX.out _ HB2.out;clear x0 x1 hb2 KN
   cases hn:Bo nm with
   | false=>
    have HF:=Hd (HNO.out (by rw[HOK.out,hn];rfl));clear hn;go_wp2_with fail;go_ret
    exact⟨by rw[HF.out];rfl,HB2.out⟩
   | true=>
    have HN:=Hd hn;clear hn;by_cases hlen:1<bs.length
    ·have t2:decide (1<bs.length)=true:=decide_eq_true hlen;have HF:=Hd (HNO.out (by rw[HOK.out,HN.out,decide_eq_false (by omega)];rfl));go_wp2_with fail;go_ret
     exact⟨by rw[HF.out];rfl,HB2.out⟩
    ·have t2:decide (1<bs.length)=false:=decide_eq_false hlen;have HLe:Hid (decide (bs.length<=1)=true):=Hd (decide_eq_true (by omega));go_wp2_with fail;refine (KAll.out _ HB2.out).mono ?_;rintro e w3 ⟨rfl,hb3⟩;have HB3:=Hd (Cp HB2.out hb3);obtain⟨z0,z1⟩:=HX.out _ HB3.out;clear y0 y1 hb3 KAll
     cases hal:bs.all Ab with
     | false=>
      have HF:=Hd (HNO.out (by rw[HOK.out,HN.out,HLe.out,hal];rfl));clear hal;go_wp2_with fail;go_ret
      exact⟨by rw[HF.out];rfl,HB3.out⟩
     | true=>
      have HAL:=Hd hal;clear hal;go_wp2_with fail
      go_loopw [4] (fun v wx=>∃ (k:Nat),k<=i/\v=.int .i64 k/\(∀ j (hj:j<l.length),j<k->l[j].1≠nm)/\Below w3.heap.size w3 wx) (fun v _=>i - (intOf v).toNat)
      case atStart=>exact⟨0,by omega,rfl,fun j _ hj=>absurd hj (by omega),Below.refl _ _⟩
      case round=>
       obtain⟨k,hk,rfl,hne,hbx⟩:=hrel;have HBX:=Hd hbx;have HB4:=Hd (Cp HB3.out hbx)
       replace z0:=Aa hbx z0
       replace z1:=Aa hbx z1
       clear hbx;have HNE:=Hd hne;clear hne;by_cases hki:k<i
       ·have t3:decide ((k:Int)<(i:Int))=true:=(by simp;omega);have t4:decide (k<i)=true:=decide_eq_true hki;have wr3:wrap64 ((k:Int)+1)=((k+1:Nat):Int):=Ao (by omega);have HM3:=Hd (Ba hki);obtain⟨q,hq,hcq0⟩:=HCell.out k (by omega);have hcq:=Aa HB4.out hcq0;have hkl:k<l.length:=(by omega);have i1:(k:Int)<(l.length:Int):=(by omega);have i2:(0:Int)<=(k:Int):=(by omega);have i3:(i:Int)<(l.length:Int):=(by omega);have i4:(0:Int)<=(i:Int):=(by omega);have i5:i<l.length:=hin;have HQ:Hid (∀ hkl:k<l.length,q=l[k].1):=Hd fun _=>hq;have HKI:Hid (k+1<=i):=Hd hki;have HCQ:Hid (∀ wx,Below wr.heap.size wr wx->wx.cell? ⟨b,o+k*2,none⟩=some (.string q)):=Hd fun wx hx=>Aa hx hcq;have HCN:Hid (∀ wx,Below wr.heap.size wr wx->wx.cell? ⟨b,o+i*2,none⟩=some (.string nm)):=Hd fun wx hx=>Aa hx z0;clear hq hcq0;by_cases hqn:q=nm
        ·have e13:(q.toList == nm.toList)=true:=(by rw[eqT];exact decide_eq_true hqn);have HF:=Hd (HNO.out (by rw[HOK.out,Xt hkl hki ((HQ.out hkl).symm.trans hqn),Bool.not_true,Bool.and_false]));clear hqn hk;go_wp2_with fail;refine wp_region_held_drew (S:=(fun w'=>w'.cell? ⟨b,o+k*2,none⟩=some (.string q)/\w'.cell? ⟨b,o+i*2,none⟩=some (.string nm))) (by kernel_rfl) ⟨HCQ.out _ (Below.refl _ _).drew,HCN.out _ (Below.refl _ _).drew⟩ (fun hHeld=>?_);refine Plan.start [0,1,2,3,4,5,6,7,8,9,10] ?_
         iterate 11 ((refine Plan.take (v:=?_) (so rfl) (by kernel_rfl) (by kernel_rfl) (by kernel_rfl) (fun _ _ _ h=>h) (Or.inl ⟨by rfl,?_⟩) hHeld ?_;rotate_left;focus (intro w' hSw;(try dsimp only at hSw);obtain⟨hS1,hS2⟩:=hSw;go_simp;try with_reducible rfl));try simp only[Act.put,Ax,Ay,Az])
         refine Plan.done ?_;refine wpAnyH_done (by kernel_rfl) ?_ _;clear hHeld;go_wp2_with fail;go_ret
         exact⟨by rw[HF.out];rfl,HB4.out.drew⟩
        ·have e13:(q.toList == nm.toList)=false:=(by rw[eqT];exact decide_eq_false hqn);have HNE2:Hid (∀ j (hj:j<l.length),j<k+1->l[j].1≠nm):=Hd fun j hj hjk=>by
          rcases Nat.lt_or_ge j k with h1 | h1
          ·exact HNE.out j hj h1
          ·have:j=k:=by omega
           subst this;rw[<-HQ.out hj];exact hqn
         clear hqn hk;go_wp2_with fail;refine wp_region_held_drew (S:=(fun w'=>w'.cell? ⟨b,o+k*2,none⟩=some (.string q)/\w'.cell? ⟨b,o+i*2,none⟩=some (.string nm))) (by kernel_rfl) ⟨HCQ.out _ (Below.refl _ _).drew,HCN.out _ (Below.refl _ _).drew⟩ (fun hHeld=>?_);refine Plan.start [0,1,2,3,4,5,6,7,8,9,10] ?_
         iterate 11 ((refine Plan.take (v:=?_) (so rfl) (by kernel_rfl) (by kernel_rfl) (by kernel_rfl) (fun _ _ _ h=>h) (Or.inl ⟨by rfl,?_⟩) hHeld ?_;rotate_left;focus (intro w' hSw;(try dsimp only at hSw);obtain⟨hS1,hS2⟩:=hSw;go_simp;try with_reducible rfl));try simp only[Act.put,Ax,Ay,Az])
         refine Plan.done ?_;refine wpAnyH_done (by kernel_rfl) ?_ _;clear hHeld;go_wp2_with fail;refine⟨⟨k+1,HKI.out,by first | rfl | rw[wr3],HNE2.out,HBX.out.drew⟩,?_⟩;first | exact HM3.out | (rw[wr3];exact HM3.out)
       ·have t3:decide ((k:Int)<(i:Int))=false:=(by simp;omega);have t4:decide (k<i)=false:=decide_eq_false hki;have HOK2:Hid (∀ j,j<i+1->okV (C3 l Ab) j=true):=Hd fun j hj=>by
         rcases Nat.lt_or_ge j i with h1 | h1
         ·exact HE.out j h1
         ·have:j=i:=by omega
          subst this;rw[HOK.out,HN.out,HLe.out,HAL.out,Xs fun a ha hai=>HNE.out a ha (by omega)];rfl
        clear hk;go_wp2_with fail;refine⟨⟨i+1,HIn.out,by first | rfl | rw[wr2],HOK2.out,HB4.out⟩,?_⟩;first | exact HM.out | (rw[wr2];exact HM.out)
  ·have t1:decide ((i:Int)<(l.length:Int))=false:=by simp;omega
   have HT1:Hid (Dy (C3 l Ab)=true):=Hd (by unfold Dy;rw[Eb];exact fun j hj=>HE.out j (by rw[Fg] at hj;omega));clear hi;go_wp2_with fail;go_ret
   exact⟨by rw[HT1.out];rfl,HB.out⟩
theorem Ww (t:Ty):∀ x∈Cq t,x.k≠15:=by
 refine Ty.ind (C:=fun t=>∀ x∈Cq t,x.k≠15) (fun k t n ps fs vs hp _ _ x hx=>?_) t;rw[Ck] at hx;by_cases h:k=15
 ·rw[if_pos h] at hx;unfold Bb at hx;rw[List.mem_flatten] at hx;obtain⟨l,hl,hx⟩:=hx;obtain⟨p,hm,rfl⟩:=List.mem_map.1 hl;exact hp p hm x hx
 ·rw[if_neg h,List.mem_singleton] at hx;subst hx;exact h
theorem Qn {l:List Ty} {x:Ty} (h:x∈Bb l):x.k≠15:=by
 unfold Bb at h;rw[List.mem_flatten] at h;obtain⟨m,hm,hx⟩:=h;obtain⟨p,-,rfl⟩:=List.mem_map.1 hm;exact Ww p x hx
theorem Iw:∀ {l:List Ty},(∀ x∈l,x.k≠15)->Bb l=l
 | [],_=>rfl
 | a :: l,h=>by
  obtain⟨k,t,n,ps,fs,vs⟩:=a;have hk:¬ k=15:=h _ List.mem_cons_self;rw[He,Ck,if_neg hk,Iw fun x hx=>h x (List.mem_cons_of_mem _ hx)];rfl
theorem T4:∀ {l:List Ty},(∀ i (h:i+1<l.length),Bt (l[i]'(by omega)) l[i+1] = -1)->Lh l
 | [],_=>List.Pairwise.nil
 | [a],_=>List.pairwise_singleton _ _
 | a :: b :: l,h=>by
  have ih:Lh (b :: l):=T4 fun i hi=>h (i+1) (by simp at hi ⊢;omega);refine List.pairwise_cons.2 ⟨fun x hx=>?_,ih⟩;have h0:Bt a b = -1:=h 0 (by simp);rcases List.mem_cons.1 hx with rfl | hx
  ·exact h0
  ·exact Ff h0 (List.rel_of_pairwise_cons ih hx)
theorem J3 {ps:List Ty} (h2:2<=ps.length):Hi ps=true↔Bi ps=.mk 15 Bk 0 ps [] []:=by
 unfold Hi;rw[Bool.and_eq_true,Eb,List.all_eq_true]
 constructor
 ·rintro⟨h,hk⟩;have hno:∀ x∈ps,x.k≠15:=fun x hx e=>by
   obtain⟨i,hi,rfl⟩:=List.getElem_of_mem hx;have:=h i hi;unfold P0 at this;rw[List.getElem?_eq_getElem hi] at this;simp[e] at this
  have hA:Lh ps:=T4 fun i hi=>by
   have:=h (i+1) hi;unfold P0 at this;rw[List.getElem?_eq_getElem hi] at this;simp only[List.getElem?_eq_getElem (show i<ps.length by omega),Bool.and_eq_true,decide_eq_true_eq] at this;rcases F2 (ps[i]'(by omega)) ps[i+1] with e | e | e
   ·exact e
   ·have h3:=this.2;rw[e] at h3;omega
   ·have h3:=this.2;rw[e] at h3;omega
  have hf:=Iw hno;have hkp:Cd ps=ps:=by
   unfold Cd;rw[hf,List.filter_eq_self];exact hk
  unfold Bi;rw[hkp,Th hA];rcases ps with _ | ⟨x,_ | ⟨y,l⟩⟩
  ·simp at h2
  ·simp at h2
  ·rfl
 ·intro h;unfold Bi at h;have hL:C0 (Cd ps)=ps:=by
   generalize hs:C0 (Cd ps)=L at h;rcases L with _ | ⟨x,_ | ⟨y,l⟩⟩
   ·have:=congrArg Ty.k h;exact absurd this (by show ¬ ((1:Int)=15);decide)
   ·have hx:x∈Cd ps:=(Cj x _).1 (by rw[hs];exact List.mem_cons_self);unfold Cd at hx;have h15:=Qn (List.mem_filter.1 hx).1;have e:x=.mk 15 Bk 0 ps [] []:=h;rw[e] at h15;exact absurd rfl h15
   ·have e:Ty.mk 15 Bk 0 (x :: y :: l) [] []=.mk 15 Bk 0 ps [] []:=h;injection e with _ _ _ e
  have hmem:∀ x∈ps,x∈Cd ps:=fun x hx=>(Cj x _).1 (by rw[hL];exact hx);have hno:∀ x∈ps,x.k≠15:=fun x hx=>Qn (List.mem_filter.1 (hmem x hx)).1;have hf:=Iw hno;have hA:Lh ps:=by rw[<-hL];exact F3 _
  refine⟨fun i hi=>?_,fun x hx=>?_⟩
  ·unfold P0;rw[List.getElem?_eq_getElem hi];have h15:=hno _ (List.getElem_mem hi);rcases i with _ | i
   ·simpa using h15
   ·have:=List.pairwise_iff_getElem.1 hA i (i+1) (by omega) hi (by omega);simp only[List.getElem?_eq_getElem (show i<ps.length by omega),this];simpa using h15
  ·have h3:=(List.mem_filter.1 (hmem x hx)).2;rw[hf] at h3;exact h3
end Go.Proofs.YtlpfpehegddcfaaGreatDoor
