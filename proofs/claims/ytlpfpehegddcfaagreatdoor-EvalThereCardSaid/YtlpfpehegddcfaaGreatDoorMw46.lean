import Derived.Test.YtlpfpehegddcfaaGreatDoorMw45
namespace Go.Proofs.YtlpfpehegddcfaaGreatDoor
set_option maxRecDepth 100000
set_option maxHeartbeats 64000000
open Go.RowKit
def Fs (x:Z8):Bool:=Ca x && !(De x (x.size - 1) == 39)
theorem Jd3 {x:Z8}(h:Fs x=true):Ca x=true/\M5 x=true:=by
 unfold Fs at h;rw[Bool.and_eq_true]at h;refine⟨h.1,?_⟩;have h1:=h.1;unfold Ca at h1;by_cases h0:x.size=0
 ·rw[Hy h0]at h1;exact h1
 ·have h2:=h.2;rw[L1 (m:=x.size - 1) (by omega) (by simpa using h2)]at h1;exact h1
theorem Jc0 {m:Nat}(_h:m<=1000000000000000):IntKind.i64.wrap ((m:Nat):Int)=(m:Int):=by
 have e:IntKind.i64.wrap ((m:Nat):Int)=wrap64 ((m:Nat):Int):=by unfold wrap64;exact IntKind.wrap_i64 _
 rw[e];exact Eu (by omega) (by omega)
theorem Sz:∀l:List Ty,l.length<=Au l
 | []=>by simp
 | a :: l=>by
  have h1:=Sz l;have h2:=Hk a;rw[show Au (a :: l)=Am a+Au l by simp[Au],List.length_cons];omega
theorem R6:∀l:List Z8,Au (l.map Cf)=l.length
 | []=>by simp[Au]
 | a :: l=>by
  have h1:=R6 l;rw[List.map_cons,show Au (Cf a :: l.map Cf)=Am (Cf a)+Au (l.map Cf) by simp[Au],H9,List.length_cons];omega
theorem Y7 {fl:Int}(h0:0<=fl) (h:fl<=255):0<=wrap64 (fl.tmod 4)/\wrap64 (fl.tmod 4)<=3:=by
 have e:fl.tmod 4=fl % 4:=Int.tmod_eq_emod_of_nonneg h0;rw[e,Eu (by omega) (by omega)];omega
def kB:Z8:=⟨#[75]⟩
theorem Jej:Ca kB=true:=by kernel_rfl
theorem there_all {K:Nat->Prop}{w:World}{body:Ty}{cs:List Value}{names:List Z8}{AN:Option Addr}{cN:Nat}{fl:Int}(hN:Cm w names AN) (cI:∀x∈names,x.size<=140737488351232) (cW:An K w body cs) (kO:Kb body) (cP:0<=fl) (hO:fl<=255) :
  Calls Tryz.prog 7 #[.slice AN names.length cN,.agg cs.toArray,.int .u8 fl] w fun e w'=>e=.returned (.bool true)/\Below w.heap.size w w':=by
 have hr:=An.low _ _ cW;clear cW;obtain⟨g,hg⟩:∃g,g=w.heap.size:=⟨_,rfl⟩;obtain⟨w1,kS⟩:∃x,x=w.alloc (.cells cs.toArray 26):=⟨_,rfl⟩;have aA:Below w.heap.size w w1:=by rw[kS];exact (Below.refl _ _).alloc (Nat.le_refl _) _
 have cZ:w1.heap[g]?=some (.cells cs.toArray 26 (0,0)):=by rw[kS,hg];exact heap_alloc_new w _
 have cX:w1.heap.size=g+1:=by rw[kS,hg];simp
 have HT:Z9 (∀wx,Below w1.heap.size w1 wx->An (fun b=>b<w.heap.size) wx body cs):=Hd fun wx hx=>(hr.later aA).later hx;have HX:=Hd fun wx (hx:Below w1.heap.size w1 wx)=>Ay hx (by omega) cZ;have HN:Z9 (∀wx,Below w1.heap.size w1 wx->Cm wx names AN):=Hd fun wx hx=>(hN.but (Ad.of_below (O:=fun _=>False) aA) fun _ _ _ h=>h).but (Ad.of_below (O:=fun _=>False) hx) fun _ _ _ h=>h;have kT:=Hd Jc6;have HB1:=Hd aA;have HG:=Hd hg;have HW1:=Hd kS;have HS1:=Hd cX;have kH:=Hd kO;have bY:=Hd cI;have bS:=Hd (And.intro cP hO);have bU:=Hd (Wd body);have aS:=fun wx (hx:Below w1.heap.size w1 wx)=>Nz (HT.o wx hx);have aJ:Z9 (Co body=true->Ai body=true):=Hd fun h=>(Sp h).1;have dP:Cs (Am body)<=4097:=Nat.min_le_right _ _;have HCN:Z9 (Cs (Am body)<=20->Am body<=20):=Hd fun h=>by unfold Cs at h;omega
 obtain⟨cn,hY⟩:∃x,x=Cs (Am body):=⟨_,rfl⟩;rw[<-hY]at dP HCN;have bR:=Hd hY;obtain⟨fq,cR⟩:∃x,x=Co body:=⟨_,rfl⟩;rw[<-cR]at aS aJ;have KF:=Hd aS;have dT:names.length<=1000000000000000:=by obtain⟨b,o,-,h,-⟩:=hN;exact h
 obtain⟨body2,hG⟩:∃q,q=body:=⟨_,rfl⟩;rw[<-hG]at HT kH bU aJ HCN bR;have bF:=hr;rw[<-hG]at bF;obtain⟨k,s2,n,ps,fs,vs⟩:=body;obtain⟨A,c,B,d,C,e,rfl,-⟩:=hr.inv;simp only[Ao]at HX HT KF HW1 bF ⊢;clear hr kO hN cI hg kS aA cZ cX aS hY cR hG bF cP hO;go_enter Tryz.func7,Tryz.ntmps7;go_upto_region 1 with fail
 rw[<-HW1.o,<-HG.o];go_wp2_with fail;refine (kT.o w1).mono ?_;rintro r w2 ⟨rfl,cJ⟩;have kC:=Hd cJ;clear cJ;obtain⟨x0,x1,x2,x3,x4,x5⟩:=Dw (HX.o w2 kC.o);by_cases kP:names.length<=50
 case neg=>
  have t1:decide ((50:Int)<(names.length:Int))=true:=by simp;omega
  go_wp2_with fail;refine (kT.o w2).mono ?_;rintro r w4 ⟨rfl,hM⟩;have hR:Z9 (Below w1.heap.size w1 w4):=Hd (kC.o.trans (hM.mono kC.o.size));clear hM;go_wp2_with fail;go_ret
  exact⟨rfl,HB1.o.trans (hR.o.mono HB1.o.size)⟩
 have t1:decide ((50:Int)<(names.length:Int))=false:=by simp;omega
 go_wp2_with fail;refine (bU.o _ w2 _ (HT.o w2 kC.o)).mono ?_;rintro r w3 ⟨rfl,kM⟩;rw[<-bR.o];have kD:Z9 (Below w1.heap.size w1 w3):=Hd (kC.o.trans (kM.below.mono kC.o.size));clear kM x0 x1 x2 x3 x4 x5 t1;by_cases hc:cn<=20
 case neg=>
  have t1:decide ((20:Int)<(cn:Int))=true:=by simp;omega
  go_wp2_with fail;refine (kT.o w3).mono ?_;rintro r w4 ⟨rfl,hM⟩;have hR:Z9 (Below w1.heap.size w1 w4):=Hd (kD.o.trans (hM.mono kD.o.size));clear hM;go_wp2_with fail;go_ret
  exact⟨rfl,HB1.o.trans (hR.o.mono HB1.o.size)⟩
 have t1:decide ((20:Int)<(cn:Int))=false:=by simp;omega
 have HC:=Hd (HCN.o hc);clear hc;obtain⟨x0,x1,x2,x3,x4,x5⟩:=Dw (HX.o w3 kD.o);go_wp2_with fail;refine (KF.o w3 kD.o).mono ?_;rintro r w4 ⟨rfl,hM⟩;have hR:Z9 (Below w1.heap.size w1 w4):=Hd (kD.o.trans (hM.mono kD.o.size));clear hM x0 x1 x2 x3 x4 x5 t1
 cases fq with
 | false=>
  go_wp2_with fail;refine (kT.o w4).mono ?_;rintro r w5 ⟨rfl,hE⟩;have hC:Z9 (Below w1.heap.size w1 w5):=Hd (hR.o.trans (hE.mono hR.o.size));clear hE;go_wp2_with fail;go_ret
  exact⟨rfl,HB1.o.trans (hC.o.mono HB1.o.size)⟩
 | true=>
  have bT:=Hd (aJ.o (by trivial));have bX:=Hd kP;clear kP;go_wp2_with fail
  go_loopw [8,7] (fun iv lv wr=>∃j:Nat,j<=names.length/\iv=.int .i64 j/\Cl (fun _=>False) w1 wr lv (((names.take j).filter Fs).map Cf)/\Below w1.heap.size w1 wr) (fun iv _ _=>names.length - (intOf iv).toNat)
  case atStart=>exact⟨0,Nat.zero_le _,rfl,⟨⟨[],⟨rfl,.inl ⟨rfl,rfl⟩⟩,fun i h=>absurd h (by simp)⟩⟩,hR.o⟩
  case round=>
   obtain⟨j,hj,rfl,ho,hb⟩:=hrel;have kP:=bX.o;have HB:=Hd hb;have HO:=Hd ho;by_cases hD:j<names.length
   ·have t1:decide ((j:Int)<(names.length:Int))=true:=(by simp;omega);have hI:wrap64 ((j:Int)+1)=((j+1:Nat):Int):=Ax (by omega);have HM:=Hd (Bf hD);have kI:Z9 (j+1<=names.length):=Hd hD;obtain⟨nb,no,hA,-,kL⟩:=HN.o wr hb;obtain rfl:=hA (by omega);have bB:=HN.o;have kF:=bY.o (names[j]'hD) (List.getElem_mem hD);have HC:Z9 (∀wx,Below wr.heap.size wr wx->wx.cell? ⟨nb,no+j,none⟩=some (.string (names[j]'hD))):=Hd fun wx hx=>Aa hx (kL j hD);have bD:((names.take (j+1)).filter Fs).map Cf=((names.take j).filter Fs).map Cf++(if Fs (names[j]'hD)=true then [Cf (names[j]'hD)] else []):=by
     rw[List.take_succ_eq_append_getElem hD,List.filter_append,List.map_append]
     congr 1
     by_cases e:Fs (names[j]'hD)=true
     ·rw[if_pos e,List.filter_cons_of_pos e];rfl
     ·rw[if_neg e,List.filter_cons_of_neg e];rfl
    have i1:(0:Int)<=(j:Int):=(by omega);have i2:(j:Int)<(names.length:Int):=(by omega);have aT:=fun wx=>Ks (names[j]'hD) wx (Nat.le_trans kF (by decide));generalize names[j]'hD=nm at kF HC bD aT;have KI:=Hd aT;have kU:=Hd bD;have cB:=Hd kF;clear hj ho hb kP kL kF bD aT hA bB;go_upto_region 7 with fail
    clear t1;obtain⟨nq,bC⟩:∃x,x=Ca nm:=⟨_,rfl⟩;rw[<-bC]at KI;have aN:=Hd bC;clear bC
    cases nq with
    | false=>
     refine wp_region_held_drew (S:=(fun w'=>w'.cell? ⟨nb,no+j,none⟩=some (.string nm))) (by kernel_rfl) (HC.o _ (Below.refl _ _).drew) (fun hB=>?_);refine Ab.s [0,1,2,3] ?_
     iterate 4 (refine Ab.k (so rfl) hB ?_;try simp only[Act.put,Az,Ba,Bb])
     refine Ab.d ?_;refine wpAnyH_ready (rs:=[4]) (by kernel_rfl) (by simp) ?_;refine AllReadyH.cons (sd (some 43) rfl) (fun Kx hK=>?_) AllReadyH.nil;go_simp;refine (KI.o _).mono ?_;rintro r w5 ⟨rfl,hE⟩;have hC:Z9 (Below wr.heap.size wr w5):=Hd ((Below.refl _ _).drew.trans hE);clear hE KI;go_wp2_with fail;refine hK.out _ _ (HC.o w5 hC.o) (fun hB=>?_);clear hK Kx;try simp only[Act.put,Az,Ba,Bb]
     refine Ab.s [5] ?_;refine Ab.k (so rfl) hB ?_;try simp only[Act.put,Az,Ba,Bb]
     refine Ab.d ?_;refine Ab.s [6,7,8,9,10,11,12,13,14,15,16,17] ?_
     iterate 12 (refine Ab.t (v:=undef) (so rfl) (by kernel_rfl) (by kernel_rfl) (by kernel_rfl) (fun _ _ _ h=>h) (Or.inr ⟨by rfl,rfl⟩) hB ?_;try simp only[Act.put,Az,Ba,Bb])
     refine Ab.d ?_;refine Ab.s [18] ?_;refine Ab.k (so rfl) hB ?_;try simp only[Act.put,Az,Ba,Bb]
     refine Ab.d ?_;refine wpAnyH_done (by kernel_rfl) ?_ _;clear hB;have kK:Z9 (Cl (fun _=>False) w1 w5 u7 (((names.take (j+1)).filter Fs).map Cf)):=Hd (by
      rw[kU.o,if_neg (by unfold Fs;rw[<-aN.o];simp),List.append_nil];exact HO.o.keep fun b hb=>hC.o.block b (HO.o.block_lt hb))
     have kG:Z9 (Below w1.heap.size w1 w5):=Hd (HB.o.trans (hC.o.mono HB.o.size));go_wp2_with fail;refine⟨⟨j+1,kI.o,by first|rfl|rw[hI],kK.o,kG.o⟩,?_⟩;first|exact HM.o|(rw[hI];exact HM.o)
    | true=>
     obtain⟨m,hm⟩:∃m,nm.size=m+1:=by
      rcases Nat.eq_zero_or_pos nm.size with h|h
      ·have h1:=aN.o;unfold Ca at h1;rw[Hy h]at h1;unfold M5 at h1;rw[h]at h1;exact absurd h1 (by simp)
      ·exact⟨nm.size - 1,by omega⟩
     have hb:=Gx nm m (by omega);have i3:(0:Int)<=(m:Int):=(by omega);have i4:(m:Int)<(m:Int)+1:=(by omega);have kF:=cB.o;have dV:wrap64 (((m+1:Nat):Int) - 1)=(m:Int):=(by rw[Eu (by omega) (by omega)];omega);have dW:wrap64 (m:Int)=(m:Int):=Eu (by omega) (by omega);have aL:Z9 (Fs nm = !(De nm m == 39)):=Hd (by unfold Fs;rw[<-aN.o,hm];rfl);have dX:IntKind.i64.wrap ((m:Nat):Int)=(m:Int):=Jc0 (by omega);obtain⟨bb,kE⟩:∃x,x=De nm m:=⟨_,rfl⟩;rw[<-kE]at hb aL;have dS:=Hd hm;clear kE kF;by_cases aX:bb=39
     ·have te:((bb:Int) == 39)=true:=(by rw[aX];rfl);refine wp_region_held_drew (S:=(fun w'=>w'.cell? ⟨nb,no+j,none⟩=some (.string nm))) (by kernel_rfl) (HC.o _ (Below.refl _ _).drew) (fun hB=>?_);refine Ab.s [0,1,2,3] ?_
      iterate 4 (refine Ab.k (so rfl) hB ?_;try simp only[Act.put,Az,Ba,Bb])
      refine Ab.d ?_;refine wpAnyH_ready (rs:=[4]) (by kernel_rfl) (by simp) ?_;refine AllReadyH.cons (sd (some 43) rfl) (fun Kx hK=>?_) AllReadyH.nil;go_simp;refine (KI.o _).mono ?_;rintro r w5 ⟨rfl,hE⟩;have hC:Z9 (Below wr.heap.size wr w5):=Hd ((Below.refl _ _).drew.trans hE);clear hE KI;go_wp2_with fail;refine hK.out _ _ (HC.o w5 hC.o) (fun hB=>?_);clear hK Kx;try simp only[Act.put,Az,Ba,Bb]
      refine Ab.s [5,6,7,8,9,10,11,12,13,14,15,16,17,18] ?_
      iterate 14 (refine Ab.k (so rfl) hB ?_;try simp only[Act.put,Az,Ba,Bb])
      refine Ab.d ?_;refine wpAnyH_done (by kernel_rfl) ?_ _;clear hB;have kK:Z9 (Cl (fun _=>False) w1 w5 u7 (((names.take (j+1)).filter Fs).map Cf)):=Hd (by
       rw[kU.o,if_neg (by rw[aL.o,aX];simp),List.append_nil];exact HO.o.keep fun b hb=>hC.o.block b (HO.o.block_lt hb))
      have kG:Z9 (Below w1.heap.size w1 w5):=Hd (HB.o.trans (hC.o.mono HB.o.size));go_wp2_with fail;refine⟨⟨j+1,kI.o,by first|rfl|rw[hI],kK.o,kG.o⟩,?_⟩;first|exact HM.o|(rw[hI];exact HM.o)
     ·have te:((bb:Int) == 39)=false:=(by simp;omega);refine wp_region_held_drew (S:=(fun w'=>w'.cell? ⟨nb,no+j,none⟩=some (.string nm))) (by kernel_rfl) (HC.o _ (Below.refl _ _).drew) (fun hB=>?_);refine Ab.s [0,1,2,3] ?_
      iterate 4 (refine Ab.k (so rfl) hB ?_;try simp only[Act.put,Az,Ba,Bb])
      refine Ab.d ?_;refine wpAnyH_ready (rs:=[4]) (by kernel_rfl) (by simp) ?_;refine AllReadyH.cons (sd (some 43) rfl) (fun Kx hK=>?_) AllReadyH.nil;go_simp;refine (KI.o _).mono ?_;rintro r w5 ⟨rfl,hE⟩;have hC:Z9 (Below wr.heap.size wr w5):=Hd ((Below.refl _ _).drew.trans hE);clear hE KI;go_wp2_with fail;refine hK.out _ _ (HC.o w5 hC.o) (fun hB=>?_);clear hK Kx;try simp only[Act.put,Az,Ba,Bb]
      refine Ab.s [5,6,7,8,9,10,11,12,13,14,15,16,17,18] ?_
      iterate 14 (refine Ab.k (so rfl) hB ?_;try simp only[Act.put,Az,Ba,Bb])
      refine Ab.d ?_;refine wpAnyH_done (by kernel_rfl) ?_ _;clear hB;have x0:=HC.o w5 hC.o;go_wp2_with fail;refine (P6 nm w5).mono ?_;rintro r w6 ⟨rfl,hV⟩;have hJ:Z9 (Below w1.heap.size w1 w6):=Hd (HB.o.trans ((hC.o.trans (hV.mono hC.o.size)).mono HB.o.size));have cA:Z9 (Below wr.heap.size wr w6):=Hd (hC.o.trans (hV.mono hC.o.size));clear hV;obtain⟨W2,kY⟩:∃x,x=w6.alloc (.cells #[.int .i64 10,.string nm,.int .i64 0,.slice none 0 0,.slice none 0 0,.slice none 0 0] 26):=⟨_,rfl⟩;have hX:Below w6.heap.size w6 W2:=(by rw[kY];exact (Below.refl _ _).alloc (Nat.le_refl _) _);have dI:=Hd (cA.o.trans (hX.mono cA.o.size));have bZ:Z9 (Cl (fun _=>False) w1 W2 u7 (((names.take j).filter Fs).map Cf)):=Hd (HO.o.keep fun b hb=>dI.o.block b (HO.o.block_lt hb));have dE:Z9 (∀j u,([.int .i64 10,.string nm,.int .i64 0,.slice none 0 0,.slice none 0 0,.slice none 0 0]:List Value)[j]?=some u->W2.cell? ⟨w6.heap.size,j,none⟩=some u):=Hd fun j u hj=>by rw[kY,Ch (heap_alloc_new w6 _)];simpa using hj
      have dC:=Hd (hJ.o.trans (hX.mono hJ.o.size));have dJ:=Hd kY;have dF:Z9 (nm.size<=1000000000000000):=Hd (Nat.le_trans cB.o (by decide));have bW:Z9 ((((names.take j).filter Fs).map Cf).length+1<=1099511627776):=Hd (by
       have h1:=List.length_filter_le Fs (names.take j);have h2:=bX.o;rw[List.length_take]at h1;rw[List.length_map];omega)
      obtain⟨dU,kR,-⟩:=HO.o;obtain⟨A5,c5,hZ,-⟩:=Fh kR;obtain⟨L0,cF⟩:∃x,x=(((names.take j).filter Fs).map Cf):=⟨_,rfl⟩;rw[<-cF]at bZ bW kU hZ;obtain⟨l0,cT⟩:∃x,x=L0.length:=⟨_,rfl⟩;rw[<-cT]at hZ;subst hZ;clear kY hX kR cF cT;go_wp2_with (at_builtin;refine wpList_plain rfl fun Kx hK=>?_;rw[<-dJ.o];go_loud (refine Jv (K:=fun _=>False) (w0:=w1) (gg:=w6.heap.size) (t:=Cf nm) (ts:=L0) _ _ rfl (by rfl) (by rfl) bZ.o (Jn (fun _=>False) w1 nm dF.o) dE.o dC.o bW.o ?_));intro v3 w7 cU kM _;refine hK _ _ ?_;clear hK Kx;have kK:Z9 (Cl (fun _=>False) w1 w7 v3 (((names.take (j+1)).filter Fs).map Cf)):=Hd (by
       rw[kU.o,if_pos (by rw[aL.o];simpa using aX)];exact cU)
      have kG:=Hd kM;clear cU kM;go_wp2_with fail;refine⟨⟨j+1,kI.o,by first|rfl|rw[hI],kK.o,kG.o⟩,?_⟩;first|exact HM.o|(rw[hI];exact HM.o)
   ·have t1:decide ((j:Int)<(names.length:Int))=false:=(by simp;omega);rw[List.take_of_length_le (by omega)]at ho;obtain⟨XS,kZ⟩:∃x,x=names.filter Fs:=⟨_,rfl⟩;rw[<-kZ]at ho;have hQ:∀x∈XS,Ca x=true/\M5 x=true/\x.size<=1000000000000000:=fun x hx=>by
     rw[kZ,List.mem_filter]at hx;have h:=Jd3 hx.2;exact⟨h.1,h.2,Nat.le_trans (bY.o x hx.1) (by decide)⟩
    have dB:XS.length<=50:=by
     have h1:=List.length_filter_le Fs names;rw[<-kZ]at h1;omega
    obtain⟨AL,cL,cY,hL⟩:=ho.list (fun b h=>h.elim) hb (by rw[List.length_map];omega);have cG:=hL.both;rw[List.length_map]at cY;subst cY;have hP:((XS.map Cf).all Ai)=true:=by
     rw[List.all_eq_true];intro p hp;obtain⟨x,-,rfl⟩:=List.mem_map.1 hp;exact G1 x
    have aW:=Qb cG (fun b h=>h.2) (fun t ht=>by
     rw[Jd]at ht;obtain⟨x,-,rfl⟩:=List.mem_map.1 ht;have:=Ey (Cf x);rw[H9]at this;omega) (by rw[Jd,List.length_map];omega)
    rw[Vc (J7 hP),List.length_map]at aW;have KU:=Hd aW;have aM:=Hd hQ;have cE:=Hd dB;clear aW hP cG hL hQ dB kZ ho hj kP;go_wp2_with fail;refine KU.o.mono ?_;rintro r w5 ⟨us,rfl,kQ,hE⟩;have aF:=An.low _ _ kQ;have hC:Z9 (Below w1.heap.size w1 w5):=Hd (HB.o.trans (hE.mono HB.o.size));have aQ:=Hd aF;obtain⟨U,hU⟩:∃U,U=Bl (XS.map Cf):=⟨_,rfl⟩;have kX:=Hd hU;rw[<-hU]at aQ aF;obtain⟨k1,s1,n1,hH,hT,kA⟩:=U;obtain⟨A1,c1,B1,d1,C1,e1,rfl,-⟩:=aF.inv;simp only[Ao]at aQ ⊢;clear aF kQ hE KU hU hb;go_upto_region 10 with fail
    generalize hW:w5.alloc (.cells #[.int .i64 k1,.string s1,.int .i64 n1,.slice A1 hH.length c1,.slice B1 hT.length d1,.slice C1 kA.length e1] 26)=w6;have hV:Below w5.heap.size w5 w6:=(by rw[<-hW];exact (Below.refl _ _).alloc (Nat.le_refl _) _);have aG:w6.heap[w5.heap.size]?=some (.cells #[.int .i64 k1,.string s1,.int .i64 n1,.slice A1 hH.length c1,.slice B1 hT.length d1,.slice C1 kA.length e1] 26 (0,0)):=(by rw[<-hW];exact heap_alloc_new w5 _);have hJ:Z9 (Below w1.heap.size w1 w6):=Hd (hC.o.trans (hV.mono hC.o.size));have aR:=Hd (aQ.o.later hV);have dK:=Hd aG;have kJ:Z9 (w5.heap.size<w6.heap.size):=Hd (Array.getElem?_eq_some_iff.1 aG).1;obtain⟨x0,x1,x2,x3,x4,x5⟩:=Dw aG;obtain⟨y0,y1,y2,y3,y4,y5⟩:=Dw (HX.o w6 hJ.o);clear hW hV aG;have cM:Am (.mk k1 s1 n1 hH hT kA)<=51:=by
     have h1:=Pi (XS.map Cf);rw[R6,<-kX.o]at h1;have h2:=cE.o;omega
    have cS:Co (.mk k1 s1 n1 hH hT kA)=true:=by
     unfold Co;rw[decide_eq_true (by omega),kX.o,Nx fun p hp=>by
      obtain⟨x,-,rfl⟩:=List.mem_map.1 hp;exact G1 x]
     rfl
    have cV:hH.length<=1099511627776:=by
     have h1:=Sz hH;rw[B0]at cM;omega
    have bE:I1 (.mk k1 s1 n1 hH hT kA)=(My XS).map Cf:=(by rw[kX.o];exact Yo XS);have bA:(My XS).length<=50:=Nat.le_trans (Jek XS) cE.o;have hF:=Y7 bS.o.1 bS.o.2;have KM:=Hd (Jeh (n0:=kB) (ks:=My XS) (fl:=wrap64 (fl.tmod 4)) aR.o (HT.o w6 hJ.o) (fun x hx=>Nat.lt_trans hx kJ.o) (fun x hx=>Nat.lt_of_lt_of_le hx (Nat.le_trans HB1.o.size hJ.o.size)) (fun wx hx=>by
     refine (Yw (aR.o.later hx) (fun b h=>Nat.lt_of_lt_of_le (Nat.lt_trans h kJ.o) hx.size) cV).mono ?_;rintro r w' ⟨A,c,rfl,hl,dO⟩;rw[bE]at hl;refine⟨A,c,by rw[bE,List.length_map],?_,dO⟩;obtain⟨b,o,h1,h2⟩:=hl;refine⟨b,o,h1.weak fun x h=>h.imp (fun h=>Nat.lt_trans h kJ.o) id,fun i hi=>?_⟩;obtain⟨dN,h3,h4⟩:=h2 i hi;exact⟨dN,h3,h4.weak fun x h=>h.imp (fun h=>Nat.lt_trans h kJ.o) id⟩) (fun x hx=>(aM.o x (Qw hx)).2) cS ⟨bT.o,kH.o.1,HC.o⟩ bA ⟨Jej,by decide⟩ hF.1 hF.2)
    have cC:=Hd (X9 (n0:=kB) (fl:=wrap64 (fl.tmod 4)) bT.o hF.1 hF.2 fun x hx=>(aM.o x hx).1);have dQ:=Z5 (n0:=kB) (fl:=wrap64 (fl.tmod 4)) (ks:=My XS) HC.o;have kV:Z9 (Co (O5 kB body2 (wrap64 (fl.tmod 4)) (My XS))=true):=Hd (by unfold Co;rw[cC.o,decide_eq_true (by omega)];rfl);have kW:=Hd (Ym kB body2 (wrap64 (fl.tmod 4)) XS);have aP:Z9 (∀f∈(O5 kB body2 (wrap64 (fl.tmod 4)) (My XS)).fs,f.1.size<=1000000000000000):=Hd fun f hf=>by
     obtain⟨x,hx,rfl⟩:=List.mem_map.1 hf;exact (aM.o x (Qw hx)).2.2
    have cD:Z9 (∀f∈(My XS).map (Jr kB body2 (wrap64 (fl.tmod 4))),f.2.1=wrap64 (fl.tmod 4)):=Hd fun f hf=>by
     obtain⟨x,hx,rfl⟩:=List.mem_map.1 hf;rfl
    obtain⟨FS,aY⟩:∃FS,FS=(My XS).map (Jr kB body2 (wrap64 (fl.tmod 4))):=⟨_,rfl⟩;unfold O5 at kV kW aP;rw[<-aY]at kV kW aP cD KM;rw[<-kX.o]at kW;have aK:Z9 (FS.length<=50):=Hd (by rw[aY,List.length_map];exact bA);clear cM cS cV bE bA hF dQ cC aY;go_wp2_with fail;refine KM.o.mono ?_;rintro r w7 ⟨rs,rfl,aD,aZ⟩;have bM:Z9 (Below w1.heap.size w1 w7):=Hd (hJ.o.trans (aZ.mono hJ.o.size));have bG:=Hd aZ;obtain⟨A7,c7,B7,d7,C7,e7,rfl,-⟩:=aD.inv;simp only[Ao,List.length_nil]at aD ⊢;have dG:=Hd aD;clear aD aZ KM x0 x1 x2 x3 x4 x5 y0 y1 y2 y3 y4 y5;go_upto_region 11 with fail
    generalize hW:w7.alloc (.cells #[.int .i64 14,.string Bp,.int .i64 0,.slice A7 0 c7,.slice B7 FS.length d7,.slice C7 0 e7] 26)=w8;have aB:Below w7.heap.size w7 w8:=(by rw[<-hW];exact (Below.refl _ _).alloc (Nat.le_refl _) _);have aH:w8.heap[w7.heap.size]?=some (.cells #[.int .i64 14,.string Bp,.int .i64 0,.slice A7 0 c7,.slice B7 FS.length d7,.slice C7 0 e7] 26 (0,0)):=(by rw[<-hW];exact heap_alloc_new w7 _);have bN:Z9 (Below w1.heap.size w1 w8):=Hd (bM.o.trans (aB.mono bM.o.size));have bH:Z9 (Below w6.heap.size w6 w8):=Hd (bG.o.trans (aB.mono bG.o.size));have aO:=Hd (dG.o.later aB);have dL:=Hd aH;have bV:Z9 (w7.heap.size<w8.heap.size):=Hd (Array.getElem?_eq_some_iff.1 aH).1;have aU:=Ki aO.o (fun b h=>Nat.lt_trans h bV.o) kV.o rfl aP.o;rw[kW.o]at aU;have KK:=Hd aU;obtain⟨x0,x1,x2,x3,x4,x5⟩:=Dw aH;clear hW aB aH aU;go_wp2_with fail;refine KK.o.mono ?_;rintro r w9 ⟨rs,rfl,aE,aC⟩;have bO:Z9 (Below w1.heap.size w1 w9):=Hd (bN.o.trans (aC.mono bN.o.size));have bI:Z9 (Below w6.heap.size w6 w9):=Hd (bH.o.trans (aC.mono bH.o.size));have bK:=Hd aC;obtain⟨A9,c9,B9,d9,C9,e9,rfl,-⟩:=aE.inv;simp only[Ao]at aE ⊢;have dH:=Hd aE;clear aE aC KK x0 x1 x2 x3 x4 x5;go_upto_region 12 with fail
    generalize hW:w9.alloc (.cells #[.int .i64 k1,.string s1,.int .i64 n1,.slice A9 hH.length c9,.slice B9 hT.length d9,.slice C9 kA.length e9] 26)=wa;have kN:Below w9.heap.size w9 wa:=(by rw[<-hW];exact (Below.refl _ _).alloc (Nat.le_refl _) _);have dA:wa.heap[w9.heap.size]?=some (.cells #[.int .i64 k1,.string s1,.int .i64 n1,.slice A9 hH.length c9,.slice B9 hT.length d9,.slice C9 kA.length e9] 26 (0,0)):=(by rw[<-hW];exact heap_alloc_new w9 _);have bP:Z9 (Below w1.heap.size w1 wa):=Hd (bO.o.trans (kN.mono bO.o.size));have bJ:Z9 (Below w6.heap.size w6 wa):=Hd (bI.o.trans (kN.mono bI.o.size));have bL:Z9 (Below w8.heap.size w8 wa):=Hd (bK.o.trans (kN.mono bK.o.size));have aV:=Rb (dH.o.later kN) (aR.o.later bJ.o);rw[Dl.2 rfl]at aV;have KS:=Hd aV;obtain⟨x0,x1,x2,x3,x4,x5⟩:=Dw dA;obtain⟨y0,y1,y2,y3,y4,y5⟩:=Dw (Ay bJ.o kJ.o dK.o);clear hW kN dA aV;go_wp2_with fail;refine KS.o.mono ?_;rintro r wb ⟨rfl,kE⟩;have bQ:Z9 (Below w1.heap.size w1 wb):=Hd (bP.o.trans (kE.mono bP.o.size));have aI:Z9 (Below w8.heap.size w8 wb):=Hd (bL.o.trans (kE.mono bL.o.size));clear kE KS x0 x1 x2 x3 x4 x5 y0 y1 y2 y3 y4 y5;go_wp2_with fail
    go_loopw [14] (fun v wr=>∃i:Nat,i<=FS.length/\v=.int .i64 i/\wr=wb) (fun v _=>FS.length - (intOf v).toNat)
    case atStart=>exact⟨0,Nat.zero_le _,rfl,rfl⟩
    case round=>
     obtain⟨i,hi,rfl,dR⟩:=hrel;subst dR;have cQ:=aK.o;obtain⟨x0,x1,x2,x3,x4,x5⟩:=Dw (Ay aI.o bV.o dL.o);by_cases hD:i<FS.length
     ·have t1:decide ((i:Int)<(FS.length:Int))=true:=(by simp;omega);have hI:wrap64 ((i:Int)+1)=((i+1:Nat):Int):=Ax (by omega);have HM:=Hd (Bf hD);have kI:Z9 (i+1<=FS.length):=Hd hD;obtain⟨A2,c2,B2,d2,C2,e2,cO,-,-,cH,-⟩:=(aO.o.later aI.o).inv;have e4:=congrArg (fun l=>l[4]?) cO;simp only[Ao,List.getElem?_cons_succ,List.getElem?_cons_zero,Option.some.injEq,Value.slice.injEq,true_and]at e4;obtain⟨rfl,rfl⟩:=e4;obtain⟨fb,fo,hA,-,kL⟩:=cH.at (by omega);subst hA;have f1:=(kL i hD).2.1;rw[cD.o _ (List.getElem_mem hD)]at f1;have i1:(0:Int)<=(i:Int):=(by omega);have i2:(i:Int)<(FS.length:Int):=(by omega);clear hi cQ cO cH kL;go_wp2_with fail;refine⟨⟨i+1,kI.o,by first|rfl|rw[hI],by first|rfl|trivial⟩,?_⟩;first|exact HM.o|(rw[hI];exact HM.o)
     ·have t1:decide ((i:Int)<(FS.length:Int))=false:=(by simp;omega);have hS:=Nz (aO.o.later aI.o);rw[kV.o]at hS;have dM:=Hd hS;clear hi cQ hS;go_wp2_with fail;refine dM.o.mono ?_;rintro r wc ⟨rfl,cK⟩;have dD:Z9 (Below w1.heap.size w1 wc):=Hd (bQ.o.trans (cK.mono bQ.o.size));clear cK;go_wp2_with fail;go_ret
      exact⟨rfl,HB1.o.trans (dD.o.mono HB1.o.size)⟩
