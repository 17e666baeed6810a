import Derived.Test.YtlpfpehegddcfaaGreatDoorMv32
namespace Go.Proofs.YtlpfpehegddcfaaGreatDoor
set_option maxRecDepth 100000
set_option maxHeartbeats 64000000
open Go.RowKit
theorem Sh {wk sb:Nat} {n0:ByteArray} {w:World} {m:Option Nat} {N:List ByteArray} {A A3 A4 A5:Option Addr} {c l3 c3 l4 c4 l5 c5:Nat} {k n:Int} {s:ByteArray} (hE:EnvP wk sb n0 w m false) :
  Calls Tryz.prog 83 #[.slice A N.length c,.agg #[.int .i64 k,.string s,.int .i64 n,.slice A3 l3 c3,.slice A4 l4 c4,.slice A5 l5 c5],.map m] w fun e w'=>e=.returned (.tuple #[.slice A N.length c,.map none])/\Below w.heap.size w w':=by
 obtain⟨w1,hw1⟩:∃ x,x=w.alloc (.cells #[.int .i64 k,.string s,.int .i64 n,.slice A3 l3 c3,.slice A4 l4 c4,.slice A5 l5 c5] 26):=⟨_,rfl⟩;have hb1:Below w.heap.size w w1:=by rw[hw1];exact (Below.refl _ _).alloc (Nat.le_refl _) _
 obtain⟨z,hz,hz2⟩:=(hE.but (ButG.of_below (O:=fun _=>False) hb1) fun _ h=>h.elim).len;obtain rfl:z=0:=of_decide_eq_true hz2;have HB:=Hd hb1;have HW:=Hd hw1;clear hE hb1 hz2 hw1;go_enter Tryz.func83,Tryz.ntmps83;go_upto_region 1 with fail
 rw[<-HW.out];go_wp2_with fail
 go_ret2
 exact⟨rfl,HB.out⟩
theorem N4 {wk sb:Nat} {n0:ByteArray} {w:World} {m:Option Nat} {A A3 A4 A5:Option Addr} {c l3 c3 l4 c4 l5 c5:Nat} {k n:Int} {s:ByteArray} (hE:EnvP wk sb n0 w m true) :
  Calls Tryz.prog 83 #[.slice A 0 c,.agg #[.int .i64 k,.string s,.int .i64 n,.slice A3 l3 c3,.slice A4 l4 c4,.slice A5 l5 c5],.map m] w fun e w'=>e=.returned (.tuple #[.slice A 0 c,.map m])/\Below w.heap.size w w':=by
 obtain⟨w1,hw1⟩:∃ x,x=w.alloc (.cells #[.int .i64 k,.string s,.int .i64 n,.slice A3 l3 c3,.slice A4 l4 c4,.slice A5 l5 c5] 26):=⟨_,rfl⟩;have hb1:Below w.heap.size w w1:=by rw[hw1];exact (Below.refl _ _).alloc (Nat.le_refl _) _
 obtain⟨z,hz,hz2⟩:=(hE.but (ButG.of_below (O:=fun _=>False) hb1) fun _ h=>h.elim).len;have f1:¬ z=0:=of_decide_eq_false hz2;have HB:=Hd hb1;have HW:=Hd hw1;clear hE hb1 hw1;go_enter Tryz.func83,Tryz.ntmps83;go_upto_region 1 with fail
 rw[<-HW.out];go_wp2_with fail
 go_ret2
 exact⟨rfl,HB.out⟩
structure EntD (K Z:Nat->Prop) (wk sb:Nat) (n0:ByteArray) (u:Ty) (nd:Nat) (M:Nat) (w3 wr:World) (vc:Value):Prop where
 env:EnvP wk sb n0 wr (some M) true
 sta:StaS K Z wr sb u nd
 but:ButG (fun x=>x=sb\/x=M) w3 wr
 row:∃ C A c,vc=.slice A C.length c/\ListS wr C A/\∀ y∈C,Bl y u=true
theorem Zw {l:List ByteArray} {i:Nat} (hi:i<l.length) (y:ByteArray):Cl (l.take (i+1)) y=(Cl (l.take i) y || decide ((l[i]'hi)=y)):=by
 rw[Bool.eq_iff_iff,Bool.or_eq_true,Cy,Cy,List.take_succ_eq_append_getElem hi,List.mem_append,List.mem_singleton,decide_eq_true_iff];exact or_congr_right ⟨Eq.symm,Eq.symm⟩
theorem Zv {l:List ByteArray} (h:l.Nodup) {i:Nat} (hi:i<l.length):Cl (l.take i) (l[i]'hi)=false:=by
 rw[Bool.eq_false_iff,Ne,Cy];intro hm;obtain⟨j,hj,e⟩:=List.getElem_of_mem hm;rw[List.getElem_take] at e;have hj2:j<i:=by rw[List.length_take] at hj;omega
 have h2:=List.pairwise_iff_getElem.1 h j i (by omega) hi hj2;exact h2 e
theorem Rz {w:World} {lv:List ByteArray} {ad:Addr} (h:ListS w lv (some ad)):∀ j u,(lv.map Value.string)[j]?=some u->w.cell? (ad.add j)=some u:=by
 intro j u hj;rw[List.getElem?_map] at hj;obtain⟨x,hx,rfl⟩:=Option.map_eq_some_iff.1 hj;obtain⟨hlt,rfl⟩:=List.getElem?_eq_some_iff.1 hx;obtain⟨b,o,hA,-,hat⟩:=h;have e:=hA (by omega);injection e with e
 subst e;have h:=hat j hlt;rcases Nat.eq_zero_or_pos j with rfl | hp
 ·exact h
 ·have e2:(Addr.mk b o none).add j=if j=0 then Addr.mk b o none else Addr.mk b (o+j) none:=by simp[Addr.add]
  rw[e2,if_neg (by omega)];exact h
theorem Jd {K Kt Z:Nat->Prop} {wk sb:Nat} {n0:ByteArray} {w:World} {m:Option Nat} {N:List ByteArray} {A:Option Addr} {c:Nat} {cs:List Value} {t u:Ty} {nd:Nat}
  (hN:ListS w N A) (hAN:∀ b o,A=some ⟨b,o,none⟩->b≠sb) (hN0:0<N.length) (hr:RepT Kt w t cs) (hKt:∀ x,Kt x->x<w.heap.size) (hK:∀ x,K x->x<w.heap.size/\x≠sb/\x≠wk) (hE:EnvP wk sb n0 w m true) (hS:StaS K Z w sb u nd) (hZ:Z sb) (hZl:∀ x,Z x->x<w.heap.size) (hwk:wk<w.heap.size)
  (hft:Ab t=true/\Da t=true/\Ai t<=5000) (hfu:Ab u=true/\Da u=true/\Ai u<=5000) (hsz:∀ x,Bl x t=true->x.size<=maxLen) (hcap:Bl n0 t=true->Cl N n0=false->∀ x∈N,Bl x u=false) :
  Calls Tryz.prog 83 #[.slice A N.length c,.agg cs.toArray,.map m] w (fun e w'=>∃ m',e=.returned (.tuple #[.slice A N.length c,.map m'])/\EnvP wk sb n0 w' m' (Bl n0 t && !Cl N n0)/\StaS K Z w' sb u nd/\ButG (fun x=>x=sb) w w'/\∀ b,m'=some b->w.heap.size<=b):=by
 have hsb:sb<w.heap.size:=by
  obtain⟨es,fv,kn,hx,-⟩:=hS.ex;exact (Array.getElem?_eq_some_iff.1 hx).1
 obtain⟨w1,hw1⟩:∃ x,x=w.alloc (.cells cs.toArray 26):=⟨_,rfl⟩;have hb1:Below w.heap.size w w1:=by rw[hw1];exact (Below.refl _ _).alloc (Nat.le_refl _) _
 have hE1:=hE.but (ButG.of_below (O:=fun _=>False) hb1) fun _ h=>h.elim;obtain⟨z,hz,hz2⟩:=hE1.len;have f1:¬ z=0:=of_decide_eq_false hz2;have hx1:w1.heap[w.heap.size]?=some (.cells cs.toArray 26 (0,0)):=by rw[hw1];exact heap_alloc_new w _
 have KF:=Hd (Ra (hr.later hb1) (fun x hx=>Nat.lt_of_lt_of_le (hKt x hx) hb1.size) hft.1 hft.2.1 hft.2.2);have HT:=Hd hft;have HU:=Hd hfu;have HSZ:=Hd hsz;have HCAP:=Hd hcap;have HK:=Hd hK;have HSB:=Hd hsb;have HWK:=Hd hwk;have HZ:=Hd hZ;have HZL:=Hd hZl;have HB1:=Hd hb1;have HW1:=Hd hw1;have HE:=Hd hE;have HST:=Hd hS;have HN:=Hd hN;have HAN:=Hd hAN;have HNL:Hid (N.length<=1000000000000000):=Hd (by obtain⟨_,_,_,h,_⟩:=hN;exact h);have f2:¬ (N.length:Int)=0:=by omega
 obtain⟨i0,hi0,hz0,hz1,hz2'⟩:=D4 Ih;obtain⟨k,s,n,ps,fs,vs⟩:=t;obtain⟨A3,c3,A4,c4,A5,c5,rfl,-⟩:=hr.inv;simp only[Ar] at hx1 HW1 KF ⊢;obtain⟨z0,z1,z2,z3,z4,z5⟩:w1.cell? ⟨w.heap.size,0,none⟩=some (.int .i64 k)/\w1.cell? ⟨w.heap.size,1,none⟩=some (.string s)/\w1.cell? ⟨w.heap.size,2,none⟩=some (.int .i64 n)/\w1.cell? ⟨w.heap.size,3,none⟩=some (.slice A3 ps.length c3)/\w1.cell? ⟨w.heap.size,4,none⟩=some (.slice A4 fs.length c4)/\w1.cell? ⟨w.heap.size,5,none⟩=some (.slice A5 vs.length c5):=⟨Ch hx1 0,Ch hx1 1,Ch hx1 2,Ch hx1 3,Ch hx1 4,Ch hx1 5⟩;have hmm:=@run_makeMap Tryz.prog;clear hsb hw1 hb1 hE1 hz2 hx1 hft hfu hsz hcap hK hwk hZ hZl hE hS hN hAN hN0 hr hKt;go_enter Tryz.func83,Tryz.ntmps83;go_upto_region 1 with fail
 rw[<-HW1.out];go_upto_region 5 with fail
 clear hz;go_wp2_with fail;refine KF.out.mono ?_;rintro e w2 ⟨l,Al,cl,rfl,hls,hmem,hlen,hnd,-,hfr,hb2⟩;clear z0 z1 z2 z3 z4 z5 KF;obtain⟨M,hM⟩:∃ x,x=w2.heap.size:=⟨_,rfl⟩;obtain⟨w3,hw3⟩:∃ x,x=w2.alloc (.map #[] 0):=⟨_,rfl⟩;have hb3:Below w2.heap.size w2 w3:=by rw[hw3];exact (Below.refl _ _).alloc (Nat.le_refl _) _
 have hb02:Below w.heap.size w w2:=HB1.out.trans (hb2.mono HB1.out.size);have hb03:Below w.heap.size w w3:=hb02.trans (hb3.mono hb02.size);have hwM:w.heap.size<=M:=by rw[hM];exact hb02.size
 have hE0:EnvP wk sb n0 w3 (some M) false:=by
  rw[hM,hw3];exact EnvP.new (Nat.lt_of_lt_of_le HWK.out hb02.size) (Nat.lt_of_lt_of_le HSB.out hb02.size)
 have HEM:Hid (∀ wr,ButG (fun x=>x=sb\/x=M) w3 wr->EnvP wk sb n0 wr m true):=Hd fun wr hx=>HE.out.but ((ButG.of_below (O:=fun x=>x=sb\/x=M) hb03).trans hx fun x h=>.inl h) fun x h=>h.elim (fun e=>.inr (.inl e)) fun e=>.inr (.inr (by omega));have HLL:Hid (∀ wr,ButG (fun x=>x=sb\/x=M) w3 wr->ListS wr l Al):=Hd fun wr hx=>hls.butL ((ButG.of_below (O:=fun x=>x=sb\/x=M) hb3).trans hx fun x h=>.inl h) fun b o e hlt h=>by
  have h1:=hfr b o e;have h2:=HB1.out.size;have h3:=HSB.out;rcases h with h | h <;> omega
 have HNN:Hid (∀ wr,ButG (fun x=>x=sb\/x=M) w3 wr->ListS wr N A):=Hd fun wr hx=>HN.out.butL ((ButG.of_below (O:=fun x=>x=sb\/x=M) hb03).trans hx fun x h=>.inl h) fun b o e hlt h=>by
  have h1:=HAN.out b o e;rcases h with h | h
  ·exact h1 h
  ·omega
 have HLN:Hid (l.length<=1000000000000000):=Hd (by obtain⟨_,_,_,h,_⟩:=hls;exact h);have HMEM:=Hd hmem;have HND:=Hd hnd;have HE0:=Hd hE0;have HM:=Hd hM;have HW3:=Hd hw3;have HB3:=Hd hb03;have HWM:=Hd hwM;clear hls hmem hlen hnd hfr hb2 hM hw3 hb3 hb02 hb03 hwM hE0;go_upto_region 7 with fail
 clear hmm;rw[<-HM.out,<-HW3.out];go_wp2_with fail
 go_loopw [10,32] (fun vc v wr=>∃ i:Nat,i<=l.length/\v=.int .i64 i/\(((Cl (l.take i) n0 && !Cl N n0)=false/\vc=.slice none 0 0/\wr=w3)\/((Cl (l.take i) n0 && !Cl N n0)=true/\EntD K Z wk sb n0 u nd M w3 wr vc))) (fun _ v _=>l.length - (intOf v).toNat)
 case atStart=>exact⟨0,Nat.zero_le _,rfl,.inl ⟨rfl,rfl,rfl⟩⟩
 case round=>
  obtain⟨i,hi,rfl,hst⟩:=hrel;have hln:=HLN.out;have hB3:ButG (fun x=>x=sb\/x=M) w3 wr:=by
   rcases hst with ⟨-,-,h⟩ | ⟨-,hd⟩
   ·rw[h];exact ButG.refl _ _
   ·exact hd.but
  have hEm:=HEM.out wr hB3;by_cases hin:i<l.length
  ·have t1:decide ((i:Int)<(l.length:Int))=true:=by simp;omega
   have wr2:wrap64 ((i:Int)+1)=((i+1:Nat):Int):=Ao (by omega);have HMS:=Hd (Ba hin);have HIn:Hid (i+1<=l.length):=Hd hin;obtain⟨nb,no,hA0,-,hat⟩:=HLL.out wr hB3;have hA:=hA0 (by omega);subst hA;have z0:=hat i hin;have hstep:=Zw hin;have honce:=Zv HND.out hin;have hsm:=HSZ.out _ ((HMEM.out _).1 (List.getElem_mem hin));generalize (l[i]'hin)=x at z0 hstep honce hsm;have lk:=hEm.look x hsm;have i1:(0:Int)<=(i:Int):=by omega
   have i2:(i:Int)<(l.length:Int):=by omega
   by_cases hx:n0=x
   ·subst hx;rw[show (true && decide (n0=n0))=true by simp,if_pos rfl] at lk;rcases hst with ⟨-,rfl,hwr⟩ | ⟨h,-⟩
    ·obtain rfl:=hwr.symm;have KC:=Hd (Jc (c:=c) (HNN.out _ (ButG.refl _ _)) n0);obtain⟨w4,hup,hE4,hb4⟩:=HE0.out.put hsm;have hb34:ButG (fun x=>x=sb\/x=M) w3 w4:=hb4.mono fun x h=>.inr h;have hbw4:ButG (fun _=>False) w w4:=(ButG.of_below HB3.out).trans hb4 fun x h=>.inr (by have:=HWM.out;omega);have hS4:StaS K Z w4 sb u nd:=HST.out.but hbw4 (fun h=>h) (fun x h=>h.elim) fun _ _ h=>h;have KV:=Hd (Nr hS4 (fun x hx=>⟨Nat.lt_of_lt_of_le (HK.out x hx).1 hbw4.size,(HK.out x hx).2.1⟩) HZ.out (fun x hx=>Nat.lt_of_lt_of_le (HZL.out x hx) hbw4.size) HU.out.1 HU.out.2.1 HU.out.2.2)
     cases hq:Cl N n0 with
     | true=>
      rw[hq] at KC;clear hi hB3 hEm hA0 hat hstep honce hsm hln hup hE4 hb4 hb34 hbw4 hS4 KV;go_wp2_with fail;refine KC.out.mono ?_;rintro e w5 ⟨rfl,hw5⟩;obtain rfl:=hw5.symm;clear hw5;go_wp2_with fail;refine⟨⟨i+1,HIn.out,by first | rfl | rw[wr2],.inl ⟨by simp,by first | rfl | trivial,by trivial⟩⟩,?_⟩;first | exact HMS.out | (rw[wr2];exact HMS.out)
     | false=>
      rw[hq] at KC;have HS2:Hid ((Cl (l.take (i+1)) n0 && !false)=true):=Hd (by rw[hstep];simp);have HE4:=Hd hE4;have HB34:=Hd hb34;clear hi hB3 hEm hA0 hat hstep honce hsm hln hE4 hb4 hb34 hbw4 hS4 hq;go_wp2_with fail;refine KC.out.mono ?_;rintro e w5 ⟨rfl,hw5⟩;obtain rfl:=hw5.symm;clear hw5 KC;go_wp2_with fail;refine KV.out.mono ?_;rintro e w5 ⟨lv,Av,cv,rfl,hlv,hfl,hne,hS5,hb5⟩;clear hup lk z0 KV;have hb35:ButG (fun x=>x=sb\/x=M) w3 w5:=HB34.out.trans hb5 fun x h=>.inl (.inl h);have hE5:EnvP wk sb n0 w5 (some M) true:=HE4.out.but hb5 fun x h=>.inr (.inl h);have HOWN:Hid (w5.ownsRow w5.heap.size 9 1 (.slice none 0 0) 0 []):=Hd (World.ownsRow_nil _ _ _ _)
      cases Av with
      | none=>
       obtain rfl:=hne.1 rfl;obtain rfl:lv=[]:=by
        obtain⟨b,o,hA,-⟩:=hlv;exact List.eq_nil_of_length_eq_zero (Nat.eq_zero_of_not_pos fun h=>by cases hA h)
       have HD:Hid (EntD K Z wk sb n0 u nd M w3 w5 (.slice none 0 0)):=Hd ⟨hE5,hS5,hb35,[],none,0,rfl,hlv,fun y h=>absurd h (by simp)⟩;clear hlv hfl hne hS5 hb5 hb35 hE5;simp only[List.length_nil];go_wp2_with fail;refine⟨⟨i+1,HIn.out,by first | rfl | rw[wr2],.inr ⟨HS2.out,HD.out⟩⟩,?_⟩;first | exact HMS.out | (rw[wr2];exact HMS.out)
      | some ad=>
       have HNW:=Hd (Rz hlv);have HFL:=Hd hfl;have HLV:Hid (lv.length<=5000):=Hd (Nat.le_trans hfl.2 HU.out.2.2);have HS5:=Hd hS5;have HB35:=Hd hb35;have HE5:=Hd hE5;clear hlv hfl hne hS5 hb5 hb35 hE5;go_wp2_with (at_builtin;go_loud (refine wpList_append_own _ rfl _ _ 46 rfl w5.heap.size 9 i0 (.string ⟨#[]⟩) 1 16 Tryz.underlying46 hi0 hz0 hz1 hz2' rfl (by decide) _ _ _ rfl HOWN.out ad lv.length cv (lv.map .string) rfl ?a0 ?a1 ?a2 ?a3 ?a4 ?a5 ?_))
       case a0=>simp
       case a1=>exact HNW.out
       case a2=>
        intro v hv;obtain⟨x,-,rfl⟩:=List.mem_map.1 hv;rfl
       case a3=>have:=HLV.out;unfold maxLen;omega
       case a4=>have:=HLV.out;omega
       case a5=>exact Nat.le_refl _
       intro v' w6 hown hgrow _;have ho:OutS w5.heap.size w6 v' lv:=by
        unfold OutS;simpa using hown
       obtain⟨A6,c6,rfl,hl6⟩:=ho.list (by have:=HLV.out;omega);have hb56:ButG (fun _=>False) w5 w6:=(ButG.refl _ _).grown hgrow fun k hk=>by simp[Value.ownBlock] at hk
       have HD:Hid (EntD K Z wk sb n0 u nd M w3 w6 (.slice A6 lv.length c6)):=Hd ⟨HE5.out.but hb56 fun _ h=>h.elim,HS5.out.but hb56 (fun h=>h) (fun x h=>h.elim) fun _ _ h=>h,HB35.out.trans hb56 fun x h=>h.elim,lv,A6,c6,rfl,hl6,fun y hy=>(HFL.out.1 y).1 hy⟩;clear hown hgrow ho hl6 hb56;go_wp2_with fail;refine⟨⟨i+1,HIn.out,by first | rfl | rw[wr2],.inr ⟨HS2.out,HD.out⟩⟩,?_⟩;first | exact HMS.out | (rw[wr2];exact HMS.out)
    ·rw[honce] at h;cases h
   ·have hst2:((Cl (l.take (i+1)) n0 && !Cl N n0)=false/\u10=.slice none 0 0/\wr=w3)\/((Cl (l.take (i+1)) n0 && !Cl N n0)=true/\EntD K Z wk sb n0 u nd M w3 wr u10):=by
     rw[hstep,decide_eq_false (fun e=>hx e.symm),Bool.or_false];exact hst
    rw[show (true && decide (n0=x))=false by simp[hx],if_neg (by decide)] at lk;have HS2:=Hd hst2;clear hi hst hB3 hEm hA0 hat hstep honce hsm hln hst2;go_wp2_with fail;refine⟨⟨i+1,HIn.out,by first | rfl | rw[wr2],HS2.out⟩,?_⟩;first | exact HMS.out | (rw[wr2];exact HMS.out)
  ·have t1:decide ((i:Int)<(l.length:Int))=false:=by simp;omega
   obtain rfl:i=l.length:=by omega
   rw[List.take_length,show Cl l n0=Bl n0 (.mk k s n ps fs vs) from Bool.eq_iff_iff.2 (Cy.trans (HMEM.out n0))] at hst;obtain⟨C,Ac,cc,hvc,hC,hCN⟩:∃ C Ac cc,u10=.slice Ac C.length cc/\ListS wr C Ac/\∀ x∈N,Cl C x=false:=by
    rcases hst with ⟨-,hv,-⟩ | ⟨h,hd⟩
    ·exact⟨[],none,0,hv,⟨0,0,fun h=>absurd h (by simp),by simp,fun i h=>absurd h (by simp)⟩,fun x _=>rfl⟩
    ·obtain⟨C,Ac,cc,hv,hC,hy⟩:=hd.row;refine⟨C,Ac,cc,hv,hC,fun x hx=>?_⟩;rw[Bool.and_eq_true] at h;rw[Bool.eq_false_iff,Ne,Cy];intro hm;have h1:=hy x hm;rw[HCAP.out h.1 (by simpa using h.2) x hx] at h1
     cases h1
   have hfin:∃ m',(Ending.returned (.tuple #[.slice A N.length c,.map (some M)]):Ending)=.returned (.tuple #[.slice A N.length c,.map m'])/\EnvP wk sb n0 wr m' (Bl n0 (.mk k s n ps fs vs) && !Cl N n0)/\StaS K Z wr sb u nd/\ButG (fun x=>x=sb) w wr/\∀ b,m'=some b->w.heap.size<=b:=by
    refine⟨_,rfl,?_⟩;rcases hst with ⟨h,-,hw⟩ | ⟨h,hd⟩
    ·rw[h,hw];have hb:=ButG.of_below (O:=fun _=>False) HB3.out;exact⟨HE0.out,HST.out.but hb (fun h=>h) (fun x h=>h.elim) fun _ _ h=>h,ButG.of_below HB3.out,fun b e=>by injection e with e;subst e;exact HWM.out⟩
    ·rw[h];exact⟨hd.env,hd.sta,(ButG.of_below HB3.out).trans hd.but fun x h=>h.imp id fun e=>by have:=HWM.out;omega,fun b e=>by injection e with e;subst e;exact HWM.out⟩
   have HNZ:=Hd (HNN.out wr hB3);have HC:=Hd hC;have HCN:=Hd hCN;have HFIN:=Hd hfin;subst hvc;clear hi hin hst hB3 hEm hln hC hCN hfin HEM HLL HNN HE0 HW3 HB3 HM;generalize wr=wz at *;go_wp2_with fail
   go_loopw [59] (fun v wx=>(∃ j:Nat,j<=N.length/\v=.int .i64 j)/\wx=wz) (fun v _=>N.length - (intOf v).toNat)
   case atStart=>exact⟨⟨0,Nat.zero_le _,rfl⟩,rfl⟩
   case round=>
    obtain⟨⟨j,hj,rfl⟩,hwr⟩:=hrel;obtain rfl:=hwr.symm;clear hwr;have hnl:=HNL.out;clear t1;by_cases hjn:j<N.length
    ·have t1:decide ((j:Int)<(N.length:Int))=true:=(by simp;omega);have wr2:wrap64 ((j:Int)+1)=((j+1:Nat):Int):=Ao (by omega);have HMS:=Hd (Ba hjn);have HIn:Hid (j+1<=N.length):=Hd hjn;obtain⟨nb,no,hA0,-,hat⟩:=HNZ.out;have hA:=hA0 (by omega);subst hA;have z0:=hat j hjn;have hcj:=HCN.out _ (List.getElem_mem hjn);generalize (N[j]'hjn)=x at z0 hcj;have KC:=Hd (Jc (c:=cc) HC.out x);rw[hcj] at KC;have i1:(0:Int)<=(j:Int):=(by omega);have i2:(j:Int)<(N.length:Int):=(by omega);clear hj hnl hA0 hat hcj;go_wp2_with fail;refine KC.out.mono ?_;rintro e w5 ⟨rfl,hw5⟩;obtain rfl:=hw5.symm;clear hw5;go_wp2_with fail;refine⟨⟨⟨j+1,HIn.out,by first | rfl | rw[wr2]⟩,by trivial⟩,?_⟩;first | exact HMS.out | (rw[wr2];exact HMS.out)
    ·have t1:decide ((j:Int)<(N.length:Int))=false:=(by simp;omega);clear hj hnl;go_wp2_with fail
     go_ret2
     exact HFIN.out
def Bx (n0:ByteArray) (u:Ty) (K Z:Nat->Prop) (wk sb nd:Nat) (w:World) (act:Bool) (a:Nat) (t:Ty):Ending->World->Prop:=fun e w'=>∃ rs:List Value,e=.returned (.agg rs.toArray)/\RepT (fun x=>K x\/w.heap.size<=x) w' (if act=true then Ak n0 u t else t) rs/\w'.heap[wk]?=some (.cells #[.int .i64 ((a+Ai t:Nat):Int)] 85 (0,0))/\StaS K Z w' sb u nd/\ButG (fun x=>x=sb\/x=wk) w w'
def Lw (n0:ByteArray) (u:Ty) (t:Ty):Prop:=∀ (K Z:Nat->Prop) (wk sb nd:Nat) (w:World) (bp op:Nat) (m:Option Nat) (act:Bool) (a:Nat),AtT K w t bp op->bp≠sb/\bp≠wk->(∀ x,K x->x<w.heap.size/\x≠sb/\x≠wk)->EnvP wk sb n0 w m act->StaS K Z w sb u nd->Z sb->Z wk->(∀ x,Z x->x<w.heap.size)->w.heap[wk]?=some (.cells #[.int .i64 (a:Int)] 85 (0,0))->wk≠sb->a+Ai t<=4096->Ab t=true/\Da t=true->(act=true->(nd=1/\Ai u=1)\/Bl n0 t=false)->Calls Tryz.prog 43 #[.pointer (some ⟨wk,0,none⟩),.pointer (some ⟨bp,op,none⟩),.map m] w (Bx n0 u K Z wk sb nd w act a t)
structure SPre (K:Nat->Prop) (wk sb bp op:Nat) (w:World) (k:Int) (s:ByteArray) (n:Int) (ps:List Ty) (fs:Bp) (vs:Bm) (A:Option Addr) (c:Nat) (B:Option Addr) (d:Nat) (C:Option Addr) (e:Nat) (w1:World) (g:Nat):Prop where
 HX:Hid (∀ wx,ButG (fun x=>x=sb\/x=wk) w1 wx->(wx.cell? ⟨bp,op,none⟩=some (.int .i64 k)/\wx.cell? ⟨bp,op+1,none⟩=some (.string s)/\wx.cell? ⟨bp,op+2,none⟩=some (.int .i64 n)/\wx.cell? ⟨bp,op+3,none⟩=some (.slice A ps.length c)/\wx.cell? ⟨bp,op+4,none⟩=some (.slice B fs.length d)/\wx.cell? ⟨bp,op+5,none⟩=some (.slice C vs.length e)))
 HY:Hid (∀ wx,ButG (fun x=>x=sb\/x=wk) w1 wx->wx.heap[g]?=some (.cells #[.int .i64 0,.string ⟨#[]⟩,.int .i64 0,.slice none 0 0,.slice none 0 0,.slice none 0 0] 26 (0,0)))
 HB:Hid (Below w.heap.size w w1)
 HS:Hid (w1.heap.size=g+1)
 HG:Hid (g=w.heap.size)
 HW:Hid (w1=w.alloc (.cells #[.int .i64 0,.string ⟨#[]⟩,.int .i64 0,.slice none 0 0,.slice none 0 0,.slice none 0 0] 26))
 HP:Hid (∀ wx,ButG (fun x=>x=sb\/x=wk) w1 wx->ListT K wx ps A c)
 HF:Hid (∀ wx,ButG (fun x=>x=sb\/x=wk) w1 wx->ListF K wx fs B d)
 HV:Hid (∀ wx,ButG (fun x=>x=sb\/x=wk) w1 wx->ListV K wx vs C e)
 HT:Hid (s.size<=1000000000000000)
 HM:Hid (wk<g/\sb<g)
 HR:Hid (∀ wx,ButG (fun x=>x=sb\/x=wk) w1 wx->RepT K wx (.mk k s n ps fs vs) [.int .i64 k,.string s,.int .i64 n,.slice A ps.length c,.slice B fs.length d,.slice C vs.length e])
theorem Hy {K:Nat->Prop} {wk sb bp op:Nat} {w:World} {k:Int} {s:ByteArray} {n:Int} {ps:List Ty} {fs:Bp} {vs:Bm} {R:Prop} (ha:AtT K w (.mk k s n ps fs vs) bp op) (hbp:bp≠sb/\bp≠wk) (hK:∀ x,K x->x<w.heap.size/\x≠sb/\x≠wk) (hm:wk<w.heap.size/\sb<w.heap.size)
  (main:∀ (A:Option Addr) (c:Nat) (B:Option Addr) (d:Nat) (C:Option Addr) (e:Nat) (w1:World) (g:Nat),SPre K wk sb bp op w k s n ps fs vs A c B d C e w1 g->R):R:=by
 obtain⟨cs,h1,h2⟩:=ha;obtain⟨A,c,B,d,C,e,rfl,ht,hL,hF,hV⟩:=h2.inv;simp only[Ar] at h1 h2;obtain⟨w1,hw1⟩:∃ x,x=w.alloc (.cells #[.int .i64 0,.string ⟨#[]⟩,.int .i64 0,.slice none 0 0,.slice none 0 0,.slice none 0 0] 26):=⟨_,rfl⟩;have hb1:Below w.heap.size w w1:=by rw[hw1];exact (Below.refl _ _).alloc (Nat.le_refl _) _
 have hz:w1.heap[w.heap.size]?=some (.cells #[.int .i64 0,.string ⟨#[]⟩,.int .i64 0,.slice none 0 0,.slice none 0 0,.slice none 0 0] 26 (0,0)):=by rw[hw1];exact heap_alloc_new w _
 have hk:∀ x,K x->¬ (x=sb\/x=wk)/\K x:=fun x hx=>⟨fun h=>h.elim (hK x hx).2.1 (hK x hx).2.2,hx⟩;refine main A c B d C e w1 _ ⟨Hd fun wx hx=>?_,Hd fun wx hx=>hx.up (by omega) hz,Hd hb1,Hd (by rw[hw1];simp),Hd rfl,Hd hw1,Hd fun wx hx=>(hL.later hb1).but hx hk,Hd fun wx hx=>(hF.later hb1).but hx hk,Hd fun wx hx=>(hV.later hb1).but hx hk,Hd ht,Hd hm,Hd fun wx hx=>(h2.later hb1).but hx hk⟩;have hc:=fun j u (hj:([.int .i64 k,.string s,.int .i64 n,.slice A ps.length c,.slice B fs.length d,.slice C vs.length e]:List Value)[j]?=some u)=>hx.cell (p:=⟨bp,op+j,none⟩) (fun h=>h.elim hbp.1 hbp.2) (Aa hb1 (h1 j u hj));exact⟨hc 0 _ rfl,hc 1 _ rfl,hc 2 _ rfl,hc 3 _ rfl,hc 4 _ rfl,hc 5 _ rfl⟩
theorem Dl {wk sb g:Nat} {w w1 w6 W:World} (h1:Below w.heap.size w w1) (h2:ButG (fun x=>x=sb\/x=wk) w1 w6) (hg:g=w.heap.size) (h3:ButG (fun x=>x=g) w6 W):ButG (fun x=>x=sb\/x=wk) w W:=
 ((ButG.of_below (O:=(fun x=>x=sb\/x=wk)) h1).trans h2 fun x hx=>.inl hx).trans h3 fun x hx=>.inr (by omega)
theorem Jc8 {n0:ByteArray} {u:Ty} {K Z:Nat->Prop} {wk sb nd:Nat} {w:World} {bp op a:Nat} {m:Option Nat} {k:Int} {s:ByteArray} {n:Int} {ps:List Ty} {fs:Bp} {vs:Bm} (ha:AtT K w (.mk k s n ps fs vs) bp op) (hbp:bp≠sb/\bp≠wk) (hK:∀ x,K x->x<w.heap.size/\x≠sb/\x≠wk) (hE:EnvP wk sb n0 w m false) (hS:StaS K Z w sb u nd) (hZw:Z wk) (hwk:w.heap[wk]?=some (.cells #[.int .i64 (a:Int)] 85 (0,0))) (hws:wk≠sb) (hct:a+Ai (.mk k s n ps fs vs)<=4096) :
  Calls Tryz.prog 43 #[.pointer (some ⟨wk,0,none⟩),.pointer (some ⟨bp,op,none⟩),.map m] w (Bx n0 u K Z wk sb nd w false a (.mk k s n ps fs vs)):=by
 obtain⟨PO,hPO⟩:∃ PO:Ending->World->Prop,PO=Bx n0 u K Z wk sb nd w false a (.mk k s n ps fs vs):=⟨_,rfl⟩;have HFIN:Hid (∀ e w',(∃ rs:List Value,e=.returned (.agg rs.toArray)/\RepT (fun x=>K x\/w.heap.size<=x) w' (.mk k s n ps fs vs) rs/\w'.heap[wk]?=some (.cells #[.int .i64 ((a+Ai (.mk k s n ps fs vs):Nat):Int)] 85 (0,0))/\StaS K Z w' sb u nd/\ButG (fun x=>x=sb\/x=wk) w w')->PO e w'):=Hd fun e w' h=>by
  rw[hPO];unfold Bx;rw[if_neg (by decide)];exact h
 rw[<-hPO];have hmw:wk<w.heap.size:=(Array.getElem?_eq_some_iff.1 hwk).1;have hsb:sb<w.heap.size:=by
  obtain⟨es,fv,kn,hx,-⟩:=hS.ex;exact (Array.getElem?_eq_some_iff.1 hx).1
 refine Hy ha hbp hK ⟨hmw,hsb⟩ fun A c B d C e w1 g h=>?_;obtain⟨HX,HY,HB1,HS1,HG,HW1,HP,HFS,HVS,HTS,HMG,HRP⟩:=h;have HC1:=Hd (Bc HB1.out hmw hwk);have HKK:=Hd hK;have HST:=Hd hS;have HZW:=Hd hZw;have HWS:=Hd hws;obtain⟨z,hz,hz2⟩:=(hE.but (ButG.of_below (O:=fun _=>False) HB1.out) fun _ h=>h.elim).len;obtain rfl:z=0:=of_decide_eq_true hz2;obtain⟨Y,hY⟩:∃ Y:Nat,Y=Cg (Ai (.mk k s n ps fs vs)):=⟨_,rfl⟩;have hYe:Y=Ai (.mk k s n ps fs vs):=by rw[hY];unfold Cg;omega
 obtain⟨n1,hn1⟩:∃ n1,n1=a+Y:=⟨_,rfl⟩;have KN:Hid (Calls Tryz.prog 52 #[.agg #[.int .i64 k,.string s,.int .i64 n,.slice A ps.length c,.slice B fs.length d,.slice C vs.length e]] w1.drew fun e w'=>e=.returned (.int .i64 (Y:Int))/\Below w1.drew.heap.size w1.drew w'):=Hd ((J5 (HRP.out w1.drew (ButG.of_below (Below.refl _ _).drew))).mono fun e w' h=>⟨by rw[hY];exact h.1,h.2⟩);have w12:wrap64 ((a:Int)+(Y:Int))=(n1:Int):=by rw[Cf (by omega) (by omega)];omega
 have v12:IntKind.i64.wrap ((a:Int)+(Y:Int))=(n1:Int):=(Hp _).trans w12;have HN1:Hid (n1=a+Ai (.mk k s n ps fs vs)):=Hd (by omega);have c0:=Ch HC1.out 0;simp only[List.getElem?_toArray,List.getElem?_cons_zero] at c0;have t1:decide ((4096:Int)<(a:Int))=false:=decide_eq_false (by omega);have t1':¬ (4096:Int)<(a:Int):=by omega
 have t1'':¬ 4096<a:=by omega
 clear ha hbp hK hE hS hZw hwk hws hct hmw hsb hPO hz2 hY hYe hn1;go_enter Tryz.func43,Tryz.ntmps43;go_upto_region 1 with fail
 rw[<-HW1.out,<-HG.out];go_upto_region 4 with fail
 clear c0 hz;refine wp_region_held_drew (S:=(fun w'=>(w'.cell? ⟨bp,op,none⟩=some (.int .i64 k)/\w'.cell? ⟨bp,op+1,none⟩=some (.string s)/\w'.cell? ⟨bp,op+2,none⟩=some (.int .i64 n)/\w'.cell? ⟨bp,op+3,none⟩=some (.slice A ps.length c)/\w'.cell? ⟨bp,op+4,none⟩=some (.slice B fs.length d)/\w'.cell? ⟨bp,op+5,none⟩=some (.slice C vs.length e)))) (by kernel_rfl) (HX.out _ (ButG.of_below (Below.refl _ _).drew)) (fun hHeld=>?_);refine Plan.start [0,1,2,4,5,6] ?_
 iterate 6 (refine Plan.tk (so rfl) hHeld ?_;try simp only[Act.put,Ax,Ay,Az])
 refine Plan.done ?_;refine wpAnyH_ready (rs:=[3,7]) (by kernel_rfl) (by simp) ?_;refine AllReadyH.cons (sd (some 27) rfl) (fun Kx hK=>?_) (AllReadyH.cons (sd (some 31) rfl) (fun Kx hK=>?_) AllReadyH.nil);have v3:World.cell? (World.drew w1) ⟨wk,0,none⟩=some (.int .i64 a):=by rw[Ch (show (World.drew w1).heap[wk]?=_ from HC1.out)];rfl
 go_simp;clear v3;refine hK.out _ _ (HX.out _ (ButG.of_below (Below.refl _ _).drew)) (fun hHeld=>?_);clear hK Kx;try simp only[Act.put,Ax,Ay,Az]
 refine wpAnyH_ready (rs:=[7]) (by kernel_rfl) (by simp) ?_;refine AllReadyH.cons (sd (some 31) rfl) (fun Kx hK=>?_) AllReadyH.nil;go_simp;refine KN.out.mono ?_;rintro e v5 ⟨rfl,hb5⟩;have HB0:Hid (Below w1.heap.size w1 v5):=Hd ((Below.refl w1.heap.size w1).drew.trans hb5);clear hb5 KN;go_wp2_with fail;refine hK.out _ _ (HX.out _ (ButG.of_below HB0.out)) (fun hHeld=>?_);clear hK Kx;try simp only[Act.put,Ax,Ay,Az]
 have HC0:=Hd (Bc HB0.out (Array.getElem?_eq_some_iff.1 HC1.out).1 HC1.out);have v3:=Ch HC0.out 0;have v4:=Lib.frozen_of_heap HC0.out 0;simp only[List.getElem?_toArray,List.getElem?_cons_zero] at v3;rotate_left;go_simp;refine KN.out.mono ?_;rintro e v5 ⟨rfl,hb5⟩;have HB0:Hid (Below w1.heap.size w1 v5):=Hd ((Below.refl w1.heap.size w1).drew.trans hb5);clear hb5 KN;go_wp2_with fail;refine hK.out _ _ (HX.out _ (ButG.of_below HB0.out)) (fun hHeld=>?_);clear hK Kx;try simp only[Act.put,Ax,Ay,Az]
 have HC0:=Hd (Bc HB0.out (Array.getElem?_eq_some_iff.1 HC1.out).1 HC1.out);have v3:=Ch HC0.out 0;have v4:=Lib.frozen_of_heap HC0.out 0;simp only[List.getElem?_toArray,List.getElem?_cons_zero] at v3;refine wpAnyH_ready (rs:=[3]) (by kernel_rfl) (by simp) ?_;refine AllReadyH.cons (sd (some 27) rfl) (fun Kx hK=>?_) AllReadyH.nil;go_simp;refine hK.out _ _ (HX.out _ (ButG.of_below HB0.out)) (fun hHeld=>?_);clear hK Kx;try simp only[Act.put,Ax,Ay,Az]
 all_goals (
  refine Plan.start [8,9,10] ?_
  iterate 3 (refine Plan.tk (so rfl) hHeld ?_;try simp only[Act.put,Ax,Ay,Az])
  refine Plan.done ?_;refine wpAnyH_ready (rs:=[11]) (by kernel_rfl) (by simp) ?_;refine AllReadyH.cons (sd none rfl) (fun Kx hK=>?_) AllReadyH.nil;go_simp;clear v3 v4;obtain⟨w6,hw6⟩:∃ x,x=v5.setCell ⟨wk,0,none⟩ (.int .i64 (n1:Int)):=⟨_,rfl⟩;have hb6':ButG (fun x=>x=wk) w1 w6:=by rw[hw6];exact (ButG.of_below HB0.out).put1 0 _
  have hb6:ButG (fun x=>x=sb\/x=wk) w1 w6:=hb6'.mono fun x h=>.inr h;have hc6:w6.heap[wk]?=some (.cells #[.int .i64 (n1:Int)] 85 (0,0)):=by rw[hw6];exact Co HC0.out 0 _
  have HB6:=Hd hb6;have HB6':=Hd hb6';have HC6:=Hd hc6;rw[<-hw6];clear hw6 hb6 hb6' hc6;refine hK.out _ _ (HX.out _ HB6.out) (fun hHeld=>?_);clear hK Kx;try simp only[Act.put,Ax,Ay,Az]
  refine wpAnyH_done (by kernel_rfl) ?_ _;clear hHeld;obtain⟨x0,x1,x2,x3,x4,x5⟩:=HX.out _ HB6.out;have rb:=HY.out w6 HB6.out;go_upto_region 5 with fail
  obtain⟨q0,q1,q2,q3,q4,q5,z0,z1,z2,z3,z4,z5⟩:=Jp rb;have RBX:=Hd rb;clear rb;go_wp2_with fail;obtain⟨r0,r1,r2,r3,r4,r5⟩:=Fs (B5 RBX.out (.int .i64 k) (.string s) (.int .i64 n) (.slice A ps.length c) (.slice B fs.length d) (.slice C vs.length e));clear q0 q1 q2 q3 q4 q5 z0 z1 z2 z3 z4 z5;refine bodyPost_ret (v:=.agg #[.int .i64 k,.string s,.int .i64 n,.slice A ps.length c,.slice B fs.length d,.slice C vs.length e]) (by simp[results,Tryz.results43,go_sem,r0,r1,r2,r3,r4,r5]) rfl ?_;clear r0 r1 r2 r3 r4 r5;have HSB:=Cu w6 g (.int .i64 k) (.string s) (.int .i64 n) (.slice A ps.length c) (.slice B fs.length d) (.slice C vs.length e);have h1:=HN1.out;have h2:=HMG.out;have h3:=HG.out;refine HFIN.out _ _ ⟨[.int .i64 k,.string s,.int .i64 n,.slice A ps.length c,.slice B fs.length d,.slice C vs.length e],rfl,?_,by rw[<-h1];exact HSB.up (by show ¬ wk=g;omega) HC6.out,?_,Dl HB1.out HB6.out HG.out HSB⟩
  ·exact (HRP.out w6 HB6.out).but HSB fun x hx=>⟨fun e=>by have h1:=(HKK.out x hx).1;omega,.inl hx⟩
  ·have h4:ButG (fun x=>x=wk) w _:=((ButG.of_below (O:=fun x=>x=wk) HB1.out).trans HB6'.out fun x hx=>.inl hx).trans HSB fun x hx=>.inr (by omega);exact HST.out.but h4 (fun h=>HWS.out h.symm) (fun x h=>.inl (h ▸ HZW.out)) fun x hx=>(HKK.out x hx).2.2)
theorem W9 {K:Nat->Prop} {w:World} {u:Ty} {cs:List Value} (hr:RepT K w u cs) :
  Calls Tryz.prog 42 #[.agg cs.toArray] w fun e w'=>∃ sb,e=.returned (.pointer (some ⟨sb,0,none⟩))/\w.heap.size<=sb/\(∀ Z,StaS K Z w' sb u (Cg (Ai u)))/\Below w.heap.size w w':=by
 obtain⟨w1,hw1⟩:∃ x,x=w.alloc (.cells cs.toArray 26):=⟨_,rfl⟩;obtain⟨g,hg⟩:∃ g,g=w.heap.size:=⟨_,rfl⟩;have hb1:Below w.heap.size w w1:=by rw[hw1];exact (Below.refl _ _).alloc (Nat.le_refl _) _
 have hx1:w1.heap[g]?=some (.cells cs.toArray 26 (0,0)):=by rw[hw1,hg];exact heap_alloc_new w _
 have hgl:g<w1.heap.size:=(Array.getElem?_eq_some_iff.1 hx1).1;obtain⟨Y,hY⟩:∃ Y:Nat,Y=Cg (Ai u):=⟨_,rfl⟩;have KN0:=J5 ((hr.later hb1).later (Below.refl w1.heap.size w1).drew);rw[<-hY] at KN0 ⊢;have HRU:=Hd (hr.later hb1);obtain⟨k4,s4,n4,ps4,fs4,vs4⟩:=u;obtain⟨A4,c4,B4,d4,C4,e4,rfl,-⟩:=hr.inv;simp only[Ar] at hx1 KN0 HRU hw1 ⊢;have HU:Hid (∀ wx,Below w1.heap.size w1 wx->(wx.cell? ⟨g,0,none⟩=some (.int .i64 k4)/\wx.cell? ⟨g,1,none⟩=some (.string s4)/\wx.cell? ⟨g,2,none⟩=some (.int .i64 n4)/\wx.cell? ⟨g,3,none⟩=some (.slice A4 ps4.length c4)/\wx.cell? ⟨g,4,none⟩=some (.slice B4 fs4.length d4)/\wx.cell? ⟨g,5,none⟩=some (.slice C4 vs4.length e4))):=Hd fun wx hb=>by
  have h:=Bc hb hgl hx1;exact⟨Ch h 0,Ch h 1,Ch h 2,Ch h 3,Ch h 4,Ch h 5⟩
 have KN:=Hd KN0;have HW1:=Hd hw1;have HG:=Hd hg;have HB1:=Hd hb1;clear hr hw1 hg hb1 hx1 hgl hY KN0;go_enter Tryz.func42,Tryz.ntmps42;go_upto_region 1 with fail
 rw[<-HW1.out,<-HG.out];refine wp_region_held_drew (S:=(fun w'=>(w'.cell? ⟨g,0,none⟩=some (.int .i64 k4)/\w'.cell? ⟨g,1,none⟩=some (.string s4)/\w'.cell? ⟨g,2,none⟩=some (.int .i64 n4)/\w'.cell? ⟨g,3,none⟩=some (.slice A4 ps4.length c4)/\w'.cell? ⟨g,4,none⟩=some (.slice B4 fs4.length d4)/\w'.cell? ⟨g,5,none⟩=some (.slice C4 vs4.length e4)))) (by kernel_rfl) (HU.out _ (Below.refl _ _).drew) (fun hHeld=>?_);refine Plan.start [0,1] ?_
 iterate 2 (refine Plan.tk (so rfl) hHeld ?_;try simp only[Act.put,Ax,Ay,Az])
 refine Plan.done ?_;refine wpAnyH_ready (rs:=[2]) (by kernel_rfl) (by simp) ?_;refine AllReadyH.cons (sd (some 5) rfl) (fun Kx hK=>?_) AllReadyH.nil;go_simp;refine KN.out.mono ?_;rintro e w5 ⟨rfl,hb5⟩;have HB5:Hid (Below w1.heap.size w1 w5):=Hd ((Below.refl w1.heap.size w1).drew.trans hb5);clear hb5 KN;go_wp2_with fail;refine hK.out _ _ (HU.out _ HB5.out) (fun hHeld=>?_);clear hK Kx;try simp only[Act.put,Ax,Ay,Az]
 refine Plan.start [3] ?_;refine Plan.tk (so rfl) hHeld ?_;try simp only[Act.put,Ax,Ay,Az]
 refine Plan.done ?_;refine wpAnyH_ready (rs:=[4]) (by kernel_rfl) (by simp) ?_;refine AllReadyH.cons (sd (some 7) rfl) (fun Kx hK=>?_) AllReadyH.nil;go_simp;obtain⟨w6,hw6⟩:∃ x,x=w5.alloc (.cells #[.int .i64 k4,.string s4,.int .i64 n4,.slice A4 ps4.length c4,.slice B4 fs4.length d4,.slice C4 vs4.length e4,.int .i64 (Y:Int),.slice none 0 0,.bool false] 120):=⟨_,rfl⟩;obtain⟨sb,hsb⟩:∃ x,x=w5.heap.size:=⟨_,rfl⟩;have hb6:Below w5.heap.size w5 w6:=by rw[hw6];exact (Below.refl _ _).alloc (Nat.le_refl _) _
 have hx6:w6.heap[sb]?=some (.cells #[.int .i64 k4,.string s4,.int .i64 n4,.slice A4 ps4.length c4,.slice B4 fs4.length d4,.slice C4 vs4.length e4,.int .i64 (Y:Int),.slice none 0 0,.bool false] 120 (0,0)):=by rw[hw6,hsb];exact heap_alloc_new w5 _
 have HB6:Hid (Below w1.heap.size w1 w6):=Hd (HB5.out.trans (hb6.mono HB5.out.size));have HX6:=Hd hx6;have HSB:Hid (w1.heap.size<=sb):=Hd (by rw[hsb];exact HB5.out.size);rw[<-hsb,<-hw6];clear hw6 hsb hb6 hx6;refine hK.out _ _ (HU.out _ HB6.out) (fun hHeld=>?_);clear hK Kx;try simp only[Act.put,Ax,Ay,Az]
 refine Plan.start [5] ?_;refine Plan.tk (so rfl) hHeld ?_;try simp only[Act.put,Ax,Ay,Az]
 refine Plan.done ?_;refine wpAnyH_done (by kernel_rfl) ?_ _;clear hHeld;go_wp2_with fail;go_ret
 exact⟨sb,rfl,Nat.le_trans HB1.out.size HSB.out,fun Z=>⟨[.int .i64 k4,.string s4,.int .i64 n4,.slice A4 ps4.length c4,.slice B4 fs4.length d4,.slice C4 vs4.length e4],.slice none 0 0,false,HX6.out,HRU.out.later HB6.out,fun h=>by cases h⟩,HB1.out.trans (HB6.out.mono HB1.out.size)⟩
theorem Si {w:World} {N:List ByteArray} {A B:Option Addr} {c d:Nat} (h1:ListS w N A) (h2:ListS w N B) :
  Calls Tryz.prog 157 #[.slice A N.length c,.slice B N.length d] w fun e w'=>e=.returned (.bool true)/\Below w.heap.size w w':=by
 obtain⟨b1,o1,hA,hl,ha⟩:=h1;obtain⟨b2,o2,hB,-,hb⟩:=h2;have HA:=Hd hA;have HB:=Hd hB;have HL:=Hd hl;have HAT:Hid (∀ wx,Below w.heap.size w wx->∀ i (hi:i<N.length),wx.cell? ⟨b1,o1+i,none⟩=some (.string N[i])/\wx.cell? ⟨b2,o2+i,none⟩=some (.string N[i])):=Hd fun wx hx i hi=>⟨Aa hx (ha i hi),Aa hx (hb i hi)⟩;have ne0:((N.length:Int) != (N.length:Int))=false:=by simp
 clear hA hB hl ha hb;go_enter Tryz.func157,Tryz.ntmps157;go_wp2_with fail
 go_loopw [13] (fun v wr=>∃ i:Nat,i<=N.length/\v=.int .i64 i/\Below w.heap.size w wr) (fun v _=>N.length - (intOf v).toNat)
 case atStart=>exact⟨0,Nat.zero_le _,rfl,Below.refl _ _⟩
 case round=>
  obtain⟨i,hi,rfl,hbw⟩:=hrel;have hl:=HL.out;have HBW:=Hd hbw;by_cases hin:i<N.length
  ·have t1:decide ((i:Int)<(N.length:Int))=true:=by simp;omega
   have wr2:wrap64 ((i:Int)+1)=((i+1:Nat):Int):=Ao (by omega);have HMS:=Hd (Ba hin);have HIn:Hid (i+1<=N.length):=Hd hin;have hA:=HA.out (by omega);have hB:=HB.out (by omega);subst hA;subst hB;have hat:Hid (∀ wx,Below w.heap.size w wx->_):=Hd fun wx hx=>HAT.out wx hx i hin;generalize (N[i]'hin)=y at hat;have te:(y.toList == y.toList)=true:=by simp
   have tn:(y.toList != y.toList)=false:=by simp
   have i1:(0:Int)<=(i:Int):=by omega
   have i2:(i:Int)<(N.length:Int):=by omega
   have HBD:Hid (Below w.heap.size w wr.drew):=Hd hbw.drew;clear hi hbw hl;go_upto_region 6 with fail
   refine wp_region_held_drew (S:=(fun w'=>(w'.cell? ⟨b1,o1+i,none⟩=some (.string y)/\w'.cell? ⟨b2,o2+i,none⟩=some (.string y)))) (by kernel_rfl) (hat.out _ HBD.out) (fun hHeld=>?_);refine Plan.start [0,1,2,3,4,5,6,7,8] ?_
   iterate 9 (refine Plan.tk (so rfl) hHeld ?_;try simp only[Act.put,Ax,Ay,Az])
   refine Plan.done ?_;refine wpAnyH_done (by kernel_rfl) ?_ _;clear hHeld;go_wp2_with fail;refine⟨⟨i+1,HIn.out,by first | rfl | rw[wr2],HBD.out⟩,?_⟩;first | exact HMS.out | (rw[wr2];exact HMS.out)
  ·have t1:decide ((i:Int)<(N.length:Int))=false:=by simp;omega
   clear hi hbw hl;go_wp2_with fail;go_ret
   exact⟨rfl,HBW.out⟩
end Go.Proofs.YtlpfpehegddcfaaGreatDoor
