import Derived.Test.YtlpfpehegddcfaaGreatDoorMw21
namespace Go.Proofs.YtlpfpehegddcfaaGreatDoor
set_option maxRecDepth 100000
set_option maxHeartbeats 64000000
open Go.RowKit
theorem Rz:∀ {l:Bv}{v:Z8×Int×Ty},v∈l->Am v.2.2<=Bm l
 | a :: l,v,h=>by
  have e:Bm (a :: l)=Am a.2.2+Bm l:=by simp[Bm]
  rw[e];rcases List.mem_cons.1 h with rfl|h
  ·omega
  ·have:=Rz h;omega
def N3 (l:Bv) (i:Nat) (nm:Z8):Bool:=match i with|0=>true|j+1=>match l[j]? with|none=>true|some p=>Go.Op.bytesLess p.1.toList nm.toList
theorem Uw (l:Bv) (h:∀f∈l,Aj f.2.2) {K:Nat->Prop}{w:World}{A:Option Addr}{c:Nat}(hL:Du K w l A c) (hc:Bm l<=1000000) :
  Calls Tryz.prog 72 #[.slice A l.length c] w fun e w'=>e=.returned (.bool (Cd (Bn l Ai)))/\Below w.heap.size w w':=by
 have HL:=Hd hL;have HH:=Hd h;have HC:=Hd hc;have kN:=hL.shortF;clear hL h hc;go_enter Tryz.func72,Tryz.ntmps72;go_wp2_with fail
 go_loopw [3] (fun v wr=>∃(i:Nat),i<=l.length/\v=.int .i64 i/\(∀j,j<i->S9 (Bn l Ai) j=true)/\Below w.heap.size w wr) (fun v _=>l.length - (intOf v).toNat)
 case atStart=>exact⟨0,by omega,rfl,fun j hj=>absurd hj (by omega),Below.refl _ _⟩
 case round=>
  obtain⟨i,hi,rfl,he,hb⟩:=hrel;have HE:=Hd he;have HB:=Hd hb;clear he hb;by_cases hT:i<l.length
  ·have t1:decide ((i:Int)<(l.length:Int))=true:=by simp;omega
   have kC:wrap64 ((i:Int)+1)=((i+1:Nat):Int):=Ax (by omega);have HM:=Hd (Bf hT);obtain⟨b,o,hA,_,kD⟩:=HL.o.at (by omega);obtain⟨hZ,kA,kB,cs,hS,hM⟩:=kD i hT;have hY:Z9 (S9 (Bn l Ai) i=false->Cd (Bn l Ai)=false):=Hd fun e=>by unfold Cd;exact Gn (by rw[Ee];exact hT) e
   have hE:Z9 (∀k (h:k<l.length),∃q,q=l[k].1/\w.cell? ⟨b,o+k*8,none⟩=some (.string q)):=Hd fun k h=>⟨_,rfl,(kD k h).1⟩;have hH:Z9 (S9 (Bn l Ai) i=(Ca l[i].1 && decide (0<=l[i].2.1) && decide (l[i].2.1<=3) && Ai l[i].2.2 && N3 l i l[i].1)):=Hd (by
    clear hZ kA kB hS hM hY hE;rcases i with _|j
    ·rw[I0 hT];simp[N3]
    ·rw[Kv hT];simp only[N3,List.getElem?_eq_getElem (show j<l.length by omega)])
   have hC:=Hd fun wx (hx:Below w.heap.size w wx)=>HH.o _ (List.getElem_mem hT) K wx cs (hM.later hx) (Nat.le_trans (Rz (List.getElem_mem hT)) HC.o);subst hA;generalize l[i].1=nm at hZ kB hH;generalize l[i].2.1=fl at kA hH;generalize l[i].2.2=t at hM hH hC;obtain⟨k2,s2,n2,hO,hN,hP⟩:=t;obtain⟨Aq,cq,Ag,cg,Ah,ch,rfl,-⟩:=hM.inv;simp only[Ao]at hC;have HX:Z9 (∀wx,Below w.heap.size w wx->wx.cell? ⟨b,o+i*8,none⟩=some (.string nm)/\wx.cell? ⟨b,o+i*8+1,none⟩=some (.int .i64 fl)/\wx.cell? ⟨b,o+i*8+2,none⟩=some (.int .i64 k2)/\wx.cell? ⟨b,o+i*8+2+1,none⟩=some (.string s2)/\wx.cell? ⟨b,o+i*8+2+2,none⟩=some (.int .i64 n2)/\wx.cell? ⟨b,o+i*8+2+3,none⟩=some (.slice Aq hO.length cq)/\wx.cell? ⟨b,o+i*8+2+4,none⟩=some (.slice Ag hN.length cg)/\wx.cell? ⟨b,o+i*8+2+5,none⟩=some (.slice Ah hP.length ch)):=Hd fun wx hx=>
    ⟨Aa hx hZ,Aa hx kA,Aa hx (hS 0 _ rfl),Aa hx (hS 1 _ rfl),Aa hx (hS 2 _ rfl),Aa hx (hS 3 _ rfl),Aa hx (hS 4 _ rfl),Aa hx (hS 5 _ rfl)⟩
   have KN:=Hd fun wx=>Ks nm wx kB;have kI:Z9 (i+1<=l.length):=Hd hT;have hG:Z9 (∀wx,Below wr.heap.size wr wx->wx.cell? ⟨b,o+i*8,none⟩=some (.string nm)/\wx.cell? ⟨b,o+i*8+1,none⟩=some (.int .i64 fl)/\wx.cell? ⟨b,o+i*8+2,none⟩=some (.int .i64 k2)/\wx.cell? ⟨b,o+i*8+2+1,none⟩=some (.string s2)/\wx.cell? ⟨b,o+i*8+2+2,none⟩=some (.int .i64 n2)/\wx.cell? ⟨b,o+i*8+2+3,none⟩=some (.slice Aq hO.length cq)/\wx.cell? ⟨b,o+i*8+2+4,none⟩=some (.slice Ag hN.length cg)/\wx.cell? ⟨b,o+i*8+2+5,none⟩=some (.slice Ah hP.length ch)):=Hd fun wx hx=>HX.o wx (HB.o.trans (hx.mono HB.o.size));have hR:=HB.o;clear hi kD hZ kA hS hM kB;generalize Ai (.mk k2 s2 n2 hO hN hP)=qf at hH hC
   cases hn:Ca nm with
   | false=>
    have HF:=Hd (hY.o (by rw[hH.o,hn];simp));rw[hn]at KN;clear hn hR hC HX hE hH;go_wp2_with fail;refine wp_region_held_drew (S:=(fun w'=>w'.cell? ⟨b,o+i*8,none⟩=some (.string nm)/\w'.cell? ⟨b,o+i*8+1,none⟩=some (.int .i64 fl)/\w'.cell? ⟨b,o+i*8+2,none⟩=some (.int .i64 k2)/\w'.cell? ⟨b,o+i*8+2+1,none⟩=some (.string s2)/\w'.cell? ⟨b,o+i*8+2+2,none⟩=some (.int .i64 n2)/\w'.cell? ⟨b,o+i*8+2+3,none⟩=some (.slice Aq hO.length cq)/\w'.cell? ⟨b,o+i*8+2+4,none⟩=some (.slice Ag hN.length cg)/\w'.cell? ⟨b,o+i*8+2+5,none⟩=some (.slice Ah hP.length ch))) (by kernel_rfl) (hG.o _ (Below.refl _ _).drew) (fun hB=>?_);refine Ab.s [0,1,2,3,4] ?_
    iterate 5 (refine Ab.k (so rfl) hB ?_;try simp only[Act.put,Az,Ba,Bb])
    refine Ab.d ?_;refine wpAnyH_ready (rs:=[5]) (by kernel_rfl) (by simp) ?_;refine AllReadyH.cons (sd (some 15) rfl) (fun K hK=>?_) AllReadyH.nil;go_simp;refine (KN.o _).mono ?_;rintro e w2 ⟨rfl,hF⟩;have hD:=Hd ((Below.refl wr.heap.size wr).drew.trans hF);clear hF;go_wp2_with fail;refine hK.out _ _ (hG.o _ hD.o) (fun hB=>?_);clear hK K;try simp only[Act.put,Az,Ba,Bb]
    refine Ab.s [6,7] ?_
    iterate 2 (refine Ab.k (so rfl) hB ?_;try simp only[Act.put,Az,Ba,Bb])
    refine Ab.d ?_;refine Ab.s [8,9,10,11,12,13] ?_
    iterate 6 (refine Ab.t (v:=undef) (so rfl) (by kernel_rfl) (by kernel_rfl) (by kernel_rfl) (fun _ _ _ h=>h) (Or.inr ⟨by rfl,rfl⟩) hB ?_;try simp only[Act.put,Az,Ba,Bb])
    refine Ab.d ?_;refine Ab.s [14,15] ?_
    iterate 2 (refine Ab.k (so rfl) hB ?_;try simp only[Act.put,Az,Ba,Bb])
    refine Ab.d ?_;refine Ab.s [16,17,18,19,20,21] ?_
    iterate 6 (refine Ab.t (v:=undef) (so rfl) (by kernel_rfl) (by kernel_rfl) (by kernel_rfl) (fun _ _ _ h=>h) (Or.inr ⟨by rfl,rfl⟩) hB ?_;try simp only[Act.put,Az,Ba,Bb])
    refine Ab.d ?_;refine Ab.s [22,23] ?_
    iterate 2 (refine Ab.k (so rfl) hB ?_;try simp only[Act.put,Az,Ba,Bb])
    refine Ab.d ?_;refine Ab.s [24,25,26,27,28,29,30] ?_
    iterate 7 (refine Ab.t (v:=undef) (so rfl) (by kernel_rfl) (by kernel_rfl) (by kernel_rfl) (fun _ _ _ h=>h) (Or.inr ⟨by rfl,rfl⟩) hB ?_;try simp only[Act.put,Az,Ba,Bb])
    refine Ab.d ?_;refine Ab.s [31,32] ?_
    iterate 2 (refine Ab.k (so rfl) hB ?_;try simp only[Act.put,Az,Ba,Bb])
    refine Ab.d ?_;refine Ab.s [33,34,35,36,37,38,39,40,41,42,43,44,45,46,47,48] ?_
    iterate 16 (refine Ab.t (v:=undef) (so rfl) (by kernel_rfl) (by kernel_rfl) (by kernel_rfl) (fun _ _ _ h=>h) (Or.inr ⟨by rfl,rfl⟩) hB ?_;try simp only[Act.put,Az,Ba,Bb])
    refine Ab.d ?_;refine Ab.s [49] ?_;refine Ab.k (so rfl) hB ?_;try simp only[Act.put,Az,Ba,Bb]
    refine Ab.d ?_;refine wpAnyH_done (by kernel_rfl) ?_ _;clear hB;go_wp2_with fail;go_ret
    exact⟨by rw[HF.o];rfl,HB.o.trans (hD.o.mono HB.o.size)⟩
   | true=>
    rw[hn]at KN;by_cases kF:fl<0
    ·have f0:decide (fl<0)=true:=decide_eq_true kF;have HF:=Hd (hY.o (by rw[hH.o,hn,decide_eq_false (show ¬ 0<=fl by omega)];simp));clear hn hR hC HX hE hH;go_wp2_with fail;refine wp_region_held_drew (S:=(fun w'=>w'.cell? ⟨b,o+i*8,none⟩=some (.string nm)/\w'.cell? ⟨b,o+i*8+1,none⟩=some (.int .i64 fl)/\w'.cell? ⟨b,o+i*8+2,none⟩=some (.int .i64 k2)/\w'.cell? ⟨b,o+i*8+2+1,none⟩=some (.string s2)/\w'.cell? ⟨b,o+i*8+2+2,none⟩=some (.int .i64 n2)/\w'.cell? ⟨b,o+i*8+2+3,none⟩=some (.slice Aq hO.length cq)/\w'.cell? ⟨b,o+i*8+2+4,none⟩=some (.slice Ag hN.length cg)/\w'.cell? ⟨b,o+i*8+2+5,none⟩=some (.slice Ah hP.length ch))) (by kernel_rfl) (hG.o _ (Below.refl _ _).drew) (fun hB=>?_);refine Ab.s [0,1,2,3,4] ?_
     iterate 5 (refine Ab.k (so rfl) hB ?_;try simp only[Act.put,Az,Ba,Bb])
     refine Ab.d ?_;refine wpAnyH_ready (rs:=[5]) (by kernel_rfl) (by simp) ?_;refine AllReadyH.cons (sd (some 15) rfl) (fun K hK=>?_) AllReadyH.nil;go_simp;refine (KN.o _).mono ?_;rintro e w2 ⟨rfl,hF⟩;have hD:=Hd ((Below.refl wr.heap.size wr).drew.trans hF);clear hF;go_wp2_with fail;refine hK.out _ _ (hG.o _ hD.o) (fun hB=>?_);clear hK K;try simp only[Act.put,Az,Ba,Bb]
     refine Ab.s [6,7,8,9,10,11,12,13,14,15] ?_
     iterate 10 (refine Ab.k (so rfl) hB ?_;try simp only[Act.put,Az,Ba,Bb])
     refine Ab.d ?_;refine Ab.s [16,17,18,19,20,21] ?_
     iterate 6 (refine Ab.t (v:=undef) (so rfl) (by kernel_rfl) (by kernel_rfl) (by kernel_rfl) (fun _ _ _ h=>h) (Or.inr ⟨by rfl,rfl⟩) hB ?_;try simp only[Act.put,Az,Ba,Bb])
     refine Ab.d ?_;refine Ab.s [22,23] ?_
     iterate 2 (refine Ab.k (so rfl) hB ?_;try simp only[Act.put,Az,Ba,Bb])
     refine Ab.d ?_;refine Ab.s [24,25,26,27,28,29,30] ?_
     iterate 7 (refine Ab.t (v:=undef) (so rfl) (by kernel_rfl) (by kernel_rfl) (by kernel_rfl) (fun _ _ _ h=>h) (Or.inr ⟨by rfl,rfl⟩) hB ?_;try simp only[Act.put,Az,Ba,Bb])
     refine Ab.d ?_;refine Ab.s [31,32] ?_
     iterate 2 (refine Ab.k (so rfl) hB ?_;try simp only[Act.put,Az,Ba,Bb])
     refine Ab.d ?_;refine Ab.s [33,34,35,36,37,38,39,40,41,42,43,44,45,46,47,48] ?_
     iterate 16 (refine Ab.t (v:=undef) (so rfl) (by kernel_rfl) (by kernel_rfl) (by kernel_rfl) (fun _ _ _ h=>h) (Or.inr ⟨by rfl,rfl⟩) hB ?_;try simp only[Act.put,Az,Ba,Bb])
     refine Ab.d ?_;refine Ab.s [49] ?_;refine Ab.k (so rfl) hB ?_;try simp only[Act.put,Az,Ba,Bb]
     refine Ab.d ?_;refine wpAnyH_done (by kernel_rfl) ?_ _;clear hB;go_wp2_with fail;go_ret
     exact⟨by rw[HF.o];rfl,HB.o.trans (hD.o.mono HB.o.size)⟩
    ·have f0:decide (fl<0)=false:=decide_eq_false kF;by_cases kG:3<fl
     ·have f3:decide ((3:Int)<fl)=true:=decide_eq_true kG;have HF:=Hd (hY.o (by rw[hH.o,hn,decide_eq_false (show ¬ fl<=3 by omega)];simp));clear hn hR hC HX hE hH;go_wp2_with fail;refine wp_region_held_drew (S:=(fun w'=>w'.cell? ⟨b,o+i*8,none⟩=some (.string nm)/\w'.cell? ⟨b,o+i*8+1,none⟩=some (.int .i64 fl)/\w'.cell? ⟨b,o+i*8+2,none⟩=some (.int .i64 k2)/\w'.cell? ⟨b,o+i*8+2+1,none⟩=some (.string s2)/\w'.cell? ⟨b,o+i*8+2+2,none⟩=some (.int .i64 n2)/\w'.cell? ⟨b,o+i*8+2+3,none⟩=some (.slice Aq hO.length cq)/\w'.cell? ⟨b,o+i*8+2+4,none⟩=some (.slice Ag hN.length cg)/\w'.cell? ⟨b,o+i*8+2+5,none⟩=some (.slice Ah hP.length ch))) (by kernel_rfl) (hG.o _ (Below.refl _ _).drew) (fun hB=>?_);refine Ab.s [0,1,2,3,4] ?_
      iterate 5 (refine Ab.k (so rfl) hB ?_;try simp only[Act.put,Az,Ba,Bb])
      refine Ab.d ?_;refine wpAnyH_ready (rs:=[5]) (by kernel_rfl) (by simp) ?_;refine AllReadyH.cons (sd (some 15) rfl) (fun K hK=>?_) AllReadyH.nil;go_simp;refine (KN.o _).mono ?_;rintro e w2 ⟨rfl,hF⟩;have hD:=Hd ((Below.refl wr.heap.size wr).drew.trans hF);clear hF;go_wp2_with fail;refine hK.out _ _ (hG.o _ hD.o) (fun hB=>?_);clear hK K;try simp only[Act.put,Az,Ba,Bb]
      refine Ab.s [6,7,8,9,10,11,12,13,14,15,16,17,18,19,20,21,22,23] ?_
      iterate 18 (refine Ab.k (so rfl) hB ?_;try simp only[Act.put,Az,Ba,Bb])
      refine Ab.d ?_;refine Ab.s [24,25,26,27,28,29,30] ?_
      iterate 7 (refine Ab.t (v:=undef) (so rfl) (by kernel_rfl) (by kernel_rfl) (by kernel_rfl) (fun _ _ _ h=>h) (Or.inr ⟨by rfl,rfl⟩) hB ?_;try simp only[Act.put,Az,Ba,Bb])
      refine Ab.d ?_;refine Ab.s [31,32] ?_
      iterate 2 (refine Ab.k (so rfl) hB ?_;try simp only[Act.put,Az,Ba,Bb])
      refine Ab.d ?_;refine Ab.s [33,34,35,36,37,38,39,40,41,42,43,44,45,46,47,48] ?_
      iterate 16 (refine Ab.t (v:=undef) (so rfl) (by kernel_rfl) (by kernel_rfl) (by kernel_rfl) (fun _ _ _ h=>h) (Or.inr ⟨by rfl,rfl⟩) hB ?_;try simp only[Act.put,Az,Ba,Bb])
      refine Ab.d ?_;refine Ab.s [49] ?_;refine Ab.k (so rfl) hB ?_;try simp only[Act.put,Az,Ba,Bb]
      refine Ab.d ?_;refine wpAnyH_done (by kernel_rfl) ?_ _;clear hB;go_wp2_with fail;go_ret
      exact⟨by rw[HF.o];rfl,HB.o.trans (hD.o.mono HB.o.size)⟩
     ·have f3:decide ((3:Int)<fl)=false:=decide_eq_false kG;have hX:Z9 (Ca nm=true/\decide (0<=fl)=true/\decide (fl<=3)=true):=Hd ⟨hn,decide_eq_true (by omega),decide_eq_true (by omega)⟩;clear kF kG hn
      cases qf with
      | false=>
       have HF:=Hd (hY.o (by rw[hH.o];simp));clear hR HX hE hH;go_wp2_with fail;refine wp_region_held_drew (S:=(fun w'=>w'.cell? ⟨b,o+i*8,none⟩=some (.string nm)/\w'.cell? ⟨b,o+i*8+1,none⟩=some (.int .i64 fl)/\w'.cell? ⟨b,o+i*8+2,none⟩=some (.int .i64 k2)/\w'.cell? ⟨b,o+i*8+2+1,none⟩=some (.string s2)/\w'.cell? ⟨b,o+i*8+2+2,none⟩=some (.int .i64 n2)/\w'.cell? ⟨b,o+i*8+2+3,none⟩=some (.slice Aq hO.length cq)/\w'.cell? ⟨b,o+i*8+2+4,none⟩=some (.slice Ag hN.length cg)/\w'.cell? ⟨b,o+i*8+2+5,none⟩=some (.slice Ah hP.length ch))) (by kernel_rfl) (hG.o _ (Below.refl _ _).drew) (fun hB=>?_);refine Ab.s [0,1,2,3,4] ?_
       iterate 5 (refine Ab.k (so rfl) hB ?_;try simp only[Act.put,Az,Ba,Bb])
       refine Ab.d ?_;refine wpAnyH_ready (rs:=[5]) (by kernel_rfl) (by simp) ?_;refine AllReadyH.cons (sd (some 15) rfl) (fun K hK=>?_) AllReadyH.nil;go_simp;refine (KN.o _).mono ?_;rintro e w2 ⟨rfl,hF⟩;have hD:=Hd ((Below.refl wr.heap.size wr).drew.trans hF);clear hF;go_wp2_with fail;refine hK.out _ _ (hG.o _ hD.o) (fun hB=>?_);clear hK K;try simp only[Act.put,Az,Ba,Bb]
       refine Ab.s [6,7,8,9,10,11,12,13,14,15,16,17,18,19,20,21,22,23,24,25,26,27,28] ?_
       iterate 23 (refine Ab.k (so rfl) hB ?_;try simp only[Act.put,Az,Ba,Bb])
       refine Ab.d ?_;refine wpAnyH_ready (rs:=[29]) (by kernel_rfl) (by simp) ?_;refine AllReadyH.cons (sd (some 39) rfl) (fun K hK=>?_) AllReadyH.nil;go_simp;refine (hC.o _ (HB.o.trans (hD.o.mono HB.o.size))).mono ?_;rintro e w3 ⟨rfl,hJ⟩;have hI:=Hd (hD.o.trans (hJ.mono hD.o.size));clear hJ;go_wp2_with fail;refine hK.out _ _ (hG.o _ hI.o) (fun hB=>?_);clear hK K;try simp only[Act.put,Az,Ba,Bb]
       refine Ab.s [30,31,32] ?_
       iterate 3 (refine Ab.k (so rfl) hB ?_;try simp only[Act.put,Az,Ba,Bb])
       refine Ab.d ?_;refine Ab.s [33,34,35,36,37,38,39,40,41,42,43,44,45,46,47,48] ?_
       iterate 16 (refine Ab.t (v:=undef) (so rfl) (by kernel_rfl) (by kernel_rfl) (by kernel_rfl) (fun _ _ _ h=>h) (Or.inr ⟨by rfl,rfl⟩) hB ?_;try simp only[Act.put,Az,Ba,Bb])
       refine Ab.d ?_;refine Ab.s [49] ?_;refine Ab.k (so rfl) hB ?_;try simp only[Act.put,Az,Ba,Bb]
       refine Ab.d ?_;refine wpAnyH_done (by kernel_rfl) ?_ _;clear hB;go_wp2_with fail;go_ret
       exact⟨by rw[HF.o];rfl,HB.o.trans (hI.o.mono HB.o.size)⟩
      | true=>
       rcases Nat.eq_zero_or_pos i with h0|kH
       ·subst h0;have hU:Z9 (∀j,j<0+1->S9 (Bn l Ai) j=true):=Hd fun j hj=>by
         have:j=0:=by omega
         subst this;rw[hH.o,hX.o.1,hX.o.2.1,hX.o.2.2];rfl
        simp only[Nat.zero_mul,Nat.add_zero]at hG hC;clear hR HX hE hH;go_wp2_with fail;refine wp_region_held_drew (S:=(fun w'=>w'.cell? ⟨b,o,none⟩=some (.string nm)/\w'.cell? ⟨b,o+1,none⟩=some (.int .i64 fl)/\w'.cell? ⟨b,o+2,none⟩=some (.int .i64 k2)/\w'.cell? ⟨b,o+2+1,none⟩=some (.string s2)/\w'.cell? ⟨b,o+2+2,none⟩=some (.int .i64 n2)/\w'.cell? ⟨b,o+2+3,none⟩=some (.slice Aq hO.length cq)/\w'.cell? ⟨b,o+2+4,none⟩=some (.slice Ag hN.length cg)/\w'.cell? ⟨b,o+2+5,none⟩=some (.slice Ah hP.length ch))) (by kernel_rfl) (hG.o _ (Below.refl _ _).drew) (fun hB=>?_);refine Ab.s [0,1,2,3,4] ?_
        iterate 5 (refine Ab.k (so rfl) hB ?_;try simp only[Act.put,Az,Ba,Bb])
        refine Ab.d ?_;refine wpAnyH_ready (rs:=[5]) (by kernel_rfl) (by simp) ?_;refine AllReadyH.cons (sd (some 15) rfl) (fun K hK=>?_) AllReadyH.nil;go_simp;refine (KN.o _).mono ?_;rintro e w2 ⟨rfl,hF⟩;have hD:=Hd ((Below.refl wr.heap.size wr).drew.trans hF);clear hF;go_wp2_with fail;refine hK.out _ _ (hG.o _ hD.o) (fun hB=>?_);clear hK K;try simp only[Act.put,Az,Ba,Bb]
        refine Ab.s [6,7,8,9,10,11,12,13,14,15,16,17,18,19,20,21,22,23,24,25,26,27,28] ?_
        iterate 23 (refine Ab.k (so rfl) hB ?_;try simp only[Act.put,Az,Ba,Bb])
        refine Ab.d ?_;refine wpAnyH_ready (rs:=[29]) (by kernel_rfl) (by simp) ?_;refine AllReadyH.cons (sd (some 39) rfl) (fun K hK=>?_) AllReadyH.nil;go_simp;refine (hC.o _ (HB.o.trans (hD.o.mono HB.o.size))).mono ?_;rintro e w3 ⟨rfl,hJ⟩;have hI:=Hd (hD.o.trans (hJ.mono hD.o.size));clear hJ;go_wp2_with fail;refine hK.out _ _ (hG.o _ hI.o) (fun hB=>?_);clear hK K;try simp only[Act.put,Az,Ba,Bb]
        refine Ab.s [30,31,32,33,34,35] ?_
        iterate 6 (refine Ab.k (so rfl) hB ?_;try simp only[Act.put,Az,Ba,Bb])
        refine Ab.d ?_;refine Ab.s [36,37,38,39,40,41,42,43,44,45,46,47] ?_
        iterate 12 (refine Ab.t (v:=undef) (so rfl) (by kernel_rfl) (by kernel_rfl) (by kernel_rfl) (fun _ _ _ h=>h) (Or.inr ⟨by rfl,rfl⟩) hB ?_;try simp only[Act.put,Az,Ba,Bb])
        refine Ab.d ?_;refine Ab.s [48,49] ?_
        iterate 2 (refine Ab.k (so rfl) hB ?_;try simp only[Act.put,Az,Ba,Bb])
        refine Ab.d ?_;refine wpAnyH_done (by kernel_rfl) ?_ _;clear hB;go_wp2_with fail;refine⟨⟨0+1,kI.o,by first|rfl|rw[kC],hU.o,HB.o.trans (hI.o.mono HB.o.size)⟩,?_⟩;first|exact HM.o|(rw[kC];exact HM.o)
       ·obtain⟨m,hm⟩:∃m,i=m+1:=⟨i - 1,by omega⟩;obtain⟨q,hq,hV⟩:=hE.o m (by omega);have kE:=Aa hR hV;have hW:Z9 (∀wx,Below wr.heap.size wr wx->wx.cell? ⟨b,o+m*8,none⟩=some (.string q)):=Hd fun wx hx=>Aa hx kE;have kL:wrap64 ((i:Int) - 1)=((m:Nat):Int):=(by rw[Cq (by omega) (by omega)];omega);have wr1':IntKind.i64.wrap ((i:Int) - 1)=((m:Nat):Int):=by
         have e:IntKind.i64.wrap ((i:Int) - 1)=wrap64 ((i:Int) - 1):=(by unfold wrap64;exact IntKind.wrap_i64 _);rw[e,kL]
        have kM:wrap64 (m:Int)=(m:Int):=Cq (by omega) (by omega);have wr3':IntKind.i64.wrap (m:Int)=(m:Int):=by
         have e:IntKind.i64.wrap (m:Int)=wrap64 (m:Int):=(by unfold wrap64;exact IntKind.wrap_i64 _);rw[e,kM]
        have i2:(0:Int)<=(m:Int):=(by omega);have i3:(m:Int)<(l.length:Int):=(by omega);have i5:m<l.length:=(by omega);have i4:(0:Int)<(i:Int):=(by omega);have i6:decide ((0:Int)<(i:Int))=true:=decide_eq_true i4;have i7:decide (0<i)=true:=decide_eq_true kH;have hQ:Z9 (N3 l i nm=Go.Op.bytesLess q.toList nm.toList):=Hd (by
         subst hm;simp only[N3,List.getElem?_eq_getElem (show m<l.length by omega)];rw[hq])
        cases kJ:Go.Op.bytesLess q.toList nm.toList with
        | true=>
         have hU:Z9 (∀j,j<i+1->S9 (Bn l Ai) j=true):=Hd fun j hj=>by
          rcases Nat.lt_or_ge j i with h1|h1
          ·exact HE.o j h1
          ·have:j=i:=by omega
           subst this;rw[hH.o,hX.o.1,hX.o.2.1,hX.o.2.2,hQ.o,kJ];rfl
         clear hR HX hE hH hq hV kE hm;go_wp2_with fail;refine wp_region_held_drew (S:=(fun w'=>(w'.cell? ⟨b,o+i*8,none⟩=some (.string nm)/\w'.cell? ⟨b,o+i*8+1,none⟩=some (.int .i64 fl)/\w'.cell? ⟨b,o+i*8+2,none⟩=some (.int .i64 k2)/\w'.cell? ⟨b,o+i*8+2+1,none⟩=some (.string s2)/\w'.cell? ⟨b,o+i*8+2+2,none⟩=some (.int .i64 n2)/\w'.cell? ⟨b,o+i*8+2+3,none⟩=some (.slice Aq hO.length cq)/\w'.cell? ⟨b,o+i*8+2+4,none⟩=some (.slice Ag hN.length cg)/\w'.cell? ⟨b,o+i*8+2+5,none⟩=some (.slice Ah hP.length ch))/\w'.cell? ⟨b,o+m*8,none⟩=some (.string q))) (by kernel_rfl) (⟨hG.o _ (Below.refl _ _).drew,hW.o _ (Below.refl _ _).drew⟩) (fun hB=>?_);refine Ab.s [0,1,2,3,4] ?_
         iterate 5 (refine Ab.k (so rfl) hB ?_;try simp only[Act.put,Az,Ba,Bb])
         refine Ab.d ?_;refine wpAnyH_ready (rs:=[5]) (by kernel_rfl) (by simp) ?_;refine AllReadyH.cons (sd (some 15) rfl) (fun K hK=>?_) AllReadyH.nil;go_simp;refine (KN.o _).mono ?_;rintro e w2 ⟨rfl,hF⟩;have hD:=Hd ((Below.refl wr.heap.size wr).drew.trans hF);clear hF;go_wp2_with fail;refine hK.out _ _ (⟨hG.o _ hD.o,hW.o _ hD.o⟩) (fun hB=>?_);clear hK K;try simp only[Act.put,Az,Ba,Bb]
         refine Ab.s [6,7,8,9,10,11,12,13,14,15,16,17,18,19,20,21,22,23,24,25,26,27,28] ?_
         iterate 23 (refine Ab.k (so rfl) hB ?_;try simp only[Act.put,Az,Ba,Bb])
         refine Ab.d ?_;refine wpAnyH_ready (rs:=[29]) (by kernel_rfl) (by simp) ?_;refine AllReadyH.cons (sd (some 39) rfl) (fun K hK=>?_) AllReadyH.nil;go_simp;refine (hC.o _ (HB.o.trans (hD.o.mono HB.o.size))).mono ?_;rintro e w3 ⟨rfl,hJ⟩;have hI:=Hd (hD.o.trans (hJ.mono hD.o.size));clear hJ;go_wp2_with fail;refine hK.out _ _ (⟨hG.o _ hI.o,hW.o _ hI.o⟩) (fun hB=>?_);clear hK K;try simp only[Act.put,Az,Ba,Bb]
         refine Ab.s [30,31,32,33,34,35,36,37,38,39,40,41,42,43,44,45,46,47,48,49] ?_
         iterate 20 (refine Ab.k (so rfl) hB ?_;try simp only[Act.put,Az,Ba,Bb])
         refine Ab.d ?_;refine wpAnyH_done (by kernel_rfl) ?_ _;clear hB;go_wp2_with fail;refine⟨⟨i+1,kI.o,by first|rfl|rw[kC],hU.o,HB.o.trans (hI.o.mono HB.o.size)⟩,?_⟩;first|exact HM.o|(rw[kC];exact HM.o)
        | false=>
         have HF:=Hd (hY.o (by rw[hH.o,hQ.o,kJ];simp));clear hR HX hE hH hq hV kE hm;go_wp2_with fail;refine wp_region_held_drew (S:=(fun w'=>(w'.cell? ⟨b,o+i*8,none⟩=some (.string nm)/\w'.cell? ⟨b,o+i*8+1,none⟩=some (.int .i64 fl)/\w'.cell? ⟨b,o+i*8+2,none⟩=some (.int .i64 k2)/\w'.cell? ⟨b,o+i*8+2+1,none⟩=some (.string s2)/\w'.cell? ⟨b,o+i*8+2+2,none⟩=some (.int .i64 n2)/\w'.cell? ⟨b,o+i*8+2+3,none⟩=some (.slice Aq hO.length cq)/\w'.cell? ⟨b,o+i*8+2+4,none⟩=some (.slice Ag hN.length cg)/\w'.cell? ⟨b,o+i*8+2+5,none⟩=some (.slice Ah hP.length ch))/\w'.cell? ⟨b,o+m*8,none⟩=some (.string q))) (by kernel_rfl) (⟨hG.o _ (Below.refl _ _).drew,hW.o _ (Below.refl _ _).drew⟩) (fun hB=>?_);refine Ab.s [0,1,2,3,4] ?_
         iterate 5 (refine Ab.k (so rfl) hB ?_;try simp only[Act.put,Az,Ba,Bb])
         refine Ab.d ?_;refine wpAnyH_ready (rs:=[5]) (by kernel_rfl) (by simp) ?_;refine AllReadyH.cons (sd (some 15) rfl) (fun K hK=>?_) AllReadyH.nil;go_simp;refine (KN.o _).mono ?_;rintro e w2 ⟨rfl,hF⟩;have hD:=Hd ((Below.refl wr.heap.size wr).drew.trans hF);clear hF;go_wp2_with fail;refine hK.out _ _ (⟨hG.o _ hD.o,hW.o _ hD.o⟩) (fun hB=>?_);clear hK K;try simp only[Act.put,Az,Ba,Bb]
         refine Ab.s [6,7,8,9,10,11,12,13,14,15,16,17,18,19,20,21,22,23,24,25,26,27,28] ?_
         iterate 23 (refine Ab.k (so rfl) hB ?_;try simp only[Act.put,Az,Ba,Bb])
         refine Ab.d ?_;refine wpAnyH_ready (rs:=[29]) (by kernel_rfl) (by simp) ?_;refine AllReadyH.cons (sd (some 39) rfl) (fun K hK=>?_) AllReadyH.nil;go_simp;refine (hC.o _ (HB.o.trans (hD.o.mono HB.o.size))).mono ?_;rintro e w3 ⟨rfl,hJ⟩;have hI:=Hd (hD.o.trans (hJ.mono hD.o.size));clear hJ;go_wp2_with fail;refine hK.out _ _ (⟨hG.o _ hI.o,hW.o _ hI.o⟩) (fun hB=>?_);clear hK K;try simp only[Act.put,Az,Ba,Bb]
         refine Ab.s [30,31,32,33,34,35,36,37,38,39,40,41,42,43,44,45,46,47,48,49] ?_
         iterate 20 (refine Ab.k (so rfl) hB ?_;try simp only[Act.put,Az,Ba,Bb])
         refine Ab.d ?_;refine wpAnyH_done (by kernel_rfl) ?_ _;clear hB;go_wp2_with fail;go_ret
         exact⟨by rw[HF.o];rfl,HB.o.trans (hI.o.mono HB.o.size)⟩
  ·have t1:decide ((i:Int)<(l.length:Int))=false:=by simp;omega
   have kK:Z9 (Cd (Bn l Ai)=true):=Hd (by unfold Cd;rw[Ed];exact fun j hj=>HE.o j (by rw[Ee]at hj;omega));clear hi;go_wp2_with fail;go_ret
   exact⟨by rw[kK.o];rfl,HB.o⟩
theorem J1:Bp.toList=[]:=by rw[ByteArray.toList_eq];rfl
theorem Yf {k:Int}(h:k≠22):En (E7 k)=false:=by
 unfold E7;rw[M6];have e:(k == 22)=false:=by simpa using h
 rw[e];rfl
theorem Mr {t:Ty}(h:Ai t=true):K8 t:=⟨fun e=>by rw[Jf h e (by decide) (by decide)];exact Yf (by decide),Ps h⟩
theorem Tc {l:List Ty}(h:∀x∈l,Ai x=true):∀x∈Bk l,K8 x:=fun x hx=>Mr (J3 (List.all_eq_true.2 h) x hx)
theorem Nw {k:Int}(h1:1<=k) (h8:k<=8):Ai (E7 k)=true:=by
 unfold E7;rw[Aw];have hs:Ak k=⟨false,false,false,false,0,0,true⟩:=by unfold Ak;rw[if_pos ⟨h1,h8⟩]
 rw[hs];unfold Bq;rw[if_neg (by omega),if_neg (by omega),if_neg (by omega),if_neg (by omega),if_neg (by omega),if_neg (by omega),if_neg (by omega),if_neg (by omega)];unfold Ar;simp[J1]
theorem G1 (s:Z8):Ai (Cf s)=true:=by
 unfold Cf;rw[Aw];have hs:Ak 10=⟨true,false,false,false,0,0,true⟩:=rfl;rw[hs];unfold Bq;rw[if_neg (by omega),if_neg (by omega),if_neg (by omega),if_neg (by omega),if_neg (by omega),if_neg (by omega),if_neg (by omega),if_neg (by omega)];unfold Ar;simp
theorem D1 {t:Ty}(h:Ai t=true):∀p∈t.ps,Ai p=true:=by
 obtain⟨k,s,n,ps,fs,vs⟩:=t;rw[Aw,Bool.and_eq_true,List.all_eq_true]at h;exact h.2
theorem Pt {k:Int}{t:Z8}{n:Int}{ps:List Ty}{fs:Bv}{vs:Bw}(h:Ai (.mk k t n ps fs vs)=true):Bq k t n ps (Cd (Bn fs Ai)) (Ef (Dh vs Ai))=true:=by
 rw[Aw,Bool.and_eq_true,Bool.and_eq_true]at h;exact h.1.2
theorem Qq {t:Z8}{n:Int}{ps:List Ty}{fs:Bv}{vs:Bw}(h:Ai (.mk 15 t n ps fs vs)=true):2<=ps.length/\t=Bp/\n=0/\fs=[]/\vs=[]/\Ih ps=true:=by
 have hf:=Dx h;have hs:Ak 15=⟨false,false,false,false,2,-1,true⟩:=rfl;rw[hs]at hf;unfold Ar at hf;simp only[Bool.and_eq_true,Bool.not_eq_true',Bool.or_eq_false_iff,Bool.or_eq_true,decide_eq_true_eq,beq_iff_eq,Bool.not_false,Bool.true_and,decide_eq_false_iff_not]at hf;obtain⟨⟨⟨⟨h1,h2⟩,h3⟩,h4⟩,h5,h6⟩:=hf;refine⟨by omega,Ev ?_,by simpa using h2,List.eq_nil_of_length_eq_zero (by omega),List.eq_nil_of_length_eq_zero (by omega),?_⟩
 ·have:t.toList=[]:=by simpa using h1
  rw[ByteArray.toList_eq]at this;rw[this];rfl
 ·have:=Pt h;unfold Bq at this;simpa using this
theorem G3 {t:Ty}(h:Ai t=true) (hk:t.k=15):Bl t.ps=t:=by
 obtain⟨k,s,n,ps,fs,vs⟩:=t;have hk':k=15:=hk;subst hk';obtain⟨h2,rfl,rfl,rfl,rfl,hu⟩:=Qq h;exact (Lj h2).1 hu
theorem Ve {t:Ty}(h:Ai t=true):Bl [t]=t:=by
 by_cases hk:t.k=15
 ·refine Eq.trans (Mv fun x=>?_) (G3 h hk);rw[Ei];simp only[List.mem_singleton,exists_eq_left];rw[P3 hk]
 ·have hf:Bk [t]=[t]:=Hl fun x hx=>by rw[List.mem_singleton]at hx;subst hx;exact hk
  have one:∀ {k:Int},Cv k [t]=decide (t.k=k):=fun {k}=>by
   rw[Bool.eq_iff_iff,G9,decide_eq_true_eq];simp
  by_cases h1:t.k=1
  ·have e:Cy [t]=[]:=by unfold Cy;rw[hf,List.filter_eq_nil_iff];intro x hx;rw[List.mem_singleton]at hx;subst hx;rw[M8 _ h1];decide
   unfold Bl;rw[e,Jf h h1 (by decide) (by decide)];rfl
  ·have e:Cy [t]=[t]:=by
    unfold Cy;rw[hf,List.filter_eq_self];intro x hx;rw[List.mem_singleton]at hx;subst hx;by_cases h3:x.k=3
    ·exact Kq _ h3
    by_cases h2:x.k=2
    ·rw[Kp _ h2 ((Mr h).1 h2),K9,one,decide_eq_false h3];rfl
    rw[Eo _ h3 h1 h2 (by rw[K9,one,decide_eq_false h3]) (by rw[Tl,one,decide_eq_false h2])];by_cases h9:x.k=9
    ·rw[if_pos h9,Jei,one,decide_eq_false (by omega)];rfl
    ·rw[if_neg h9];by_cases hA:x.k=10
     ·rw[if_pos hA,Jb3,one,decide_eq_false (by omega)];rfl
     ·rw[if_neg hA]
   unfold Bl;rw[e];rfl
theorem Nx {l:List Ty}(h:∀x∈l,Ai x=true):Ai (Bl l)=true:=by
 have hp:=Hc l;have hu:=Tm l (Tc h);have hm:∀x∈Dg (Cy l),Ai x=true:=fun x hx=>J3 (List.all_eq_true.2 h) x (Db.1 ((Dj x _).1 hx)).1;rw[hp]at hu;unfold Bl at hp hu ⊢;generalize Dg (Cy l)=s at hp hu hm;rcases s with _|⟨x,_|⟨y,s⟩⟩
 ·exact Nw (by decide) (by decide)
 ·exact hm x (by simp)
 ·show Ai (.mk 15 Bp 0 (x :: y :: s) [] [])=true;rw[Aw];have hs:Ak 15=⟨false,false,false,false,2,-1,true⟩:=rfl;rw[hs];have hb:Ih (x :: y :: s)=true:=(Lj (by simp)).2 hu;have hA:Bq 15 Bp 0 (x :: y :: s) (Cd (Bn [] Ai)) (Ef (Dh [] Ai))=true:=by unfold Bq;simpa using hb
  rw[hA,Bool.and_true,Bool.and_eq_true,List.all_eq_true];refine⟨?_,hm⟩;unfold Ar;simp[J1];omega
theorem Mf {t:Ty}(h:Ai t=true) (hk:t.k=14):Cd (Bn t.fs Ai)=true:=by
 obtain⟨k,s,n,ps,fs,vs⟩:=t;have hk':k=14:=hk;subst hk';have:=Pt h;unfold Bq at this;have h2:Cd (Bn fs Ai)=true:=by simpa using this
 exact h2
theorem T6 {fs:Bv}(h:Cd (Bn fs Ai)=true) {i:Nat}(hi:i<fs.length):Ca fs[i].1=true/\0<=fs[i].2.1/\fs[i].2.1<=3/\Ai fs[i].2.2=true:=by
 unfold Cd at h;rw[Ed]at h;have:=h i (by rw[Ee];exact hi);rcases i with _|i
 ·rw[I0 hi]at this;simp only[Bool.and_eq_true,decide_eq_true_eq]at this;exact⟨this.1.1.1,this.1.1.2,this.1.2,this.2⟩
 ·rw[Kv hi]at this;simp only[Bool.and_eq_true,decide_eq_true_eq]at this;exact⟨this.1.1.1.1,this.1.1.1.2,this.1.1.2,this.1.2⟩
theorem Mb {fs:Bv}(h:Cd (Bn fs Ai)=true) {f:Z8×Int×Ty}(hf:f∈fs):Ca f.1=true/\0<=f.2.1/\f.2.1<=3/\Ai f.2.2=true:=by
 obtain⟨i,hi,rfl⟩:=List.getElem_of_mem hf;exact T6 h hi
theorem Iw (l m:List Ty):Au (l++m)=Au l+Au m:=by simp[Au]
theorem Gz:Au []=0:=rfl
theorem L8 (q:Ty->Bool):∀l:List Ty,Au (l.filter q)<=Au l
 | []=>Nat.le_refl _
 | a :: l=>by
  have:=L8 q l;rw[List.filter_cons]
  split
  ·rw[Cj,Cj];omega
  ·rw[Cj];omega
theorem R0 (t:Ty):∀l,Au (Fz t l)<=Am t+Au l
 | []=>by simp[Fz,Au]
 | x :: l=>by
  have:=R0 t l;unfold Fz
  repeat' split
  all_goals simp only[Cj]at *
  all_goals omega
theorem Pg:∀l,Au (Dg l)<=Au l
 | []=>Nat.le_refl _
 | a :: l=>by
  have h1:=Pg l;have h2:=R0 a (Dg l);have e:Dg (a :: l)=Fz a (Dg l):=rfl;rw[e,Cj];omega
theorem H7:∀(l:List Ty),(∀p∈l,Au (C6 p)<=Am p)->Au (Bk l)<=Au l
 | [],_=>Nat.le_refl _
 | a :: l,h=>by
  have h1:=h a List.mem_cons_self;have h2:=H7 l fun q hq=>h q (List.mem_cons_of_mem _ hq);rw[Id,Iw,Cj];omega
theorem R1 (t:Ty):Au (C6 t)<=Am t:=by
 refine Ty.ind (C:=fun t=>Au (C6 t)<=Am t) (fun k t n ps fs vs hp _ _=>?_) t;rw[Cw]
 split
 ·have:=H7 ps hp;rw[B0];omega
 ·rw[Cj,Gz];omega
theorem Xb (l:List Ty):Au (Bk l)<=Au l:=H7 l fun p _=>R1 p
theorem Kg (k:Int):Am (E7 k)=1:=by unfold E7;rw[B0];rfl
theorem Pi (l:List Ty):Am (Bl l)<=Au l+1:=by
 have h1:=Pg (Cy l);have h2:=L8 (Dn (Cp (Bk l))) (Bk l);have h3:=Xb l;have h4:Au (Cy l)=Au ((Bk l).filter (Dn (Cp (Bk l)))):=rfl;unfold Bl;generalize Dg (Cy l)=s at h1;rcases s with _|⟨x,_|⟨y,s⟩⟩
 ·show Am (E7 1)<=_;rw[Kg];omega
 ·show Am x<=_;rw[Cj,Gz]at h1;omega
 ·show Am (.mk 15 Bp 0 (x :: y :: s) [] [])<=_;rw[B0];have e1:Bm []=0:=rfl;have e2:Br []=0:=rfl;omega
theorem I8:∀ {l:Bv}{v:Z8×Int×Ty},v∈l->Am v.2.2<=Bm l
 | a :: l,v,h=>by
  have e:Bm (a :: l)=Am a.2.2+Bm l:=by simp[Bm]
  rw[e];rcases List.mem_cons.1 h with rfl|h
  ·omega
  ·have:=I8 h;omega
theorem Jfz {t:Ty}{f:Z8×Int×Ty}(h:f∈t.fs):Am f.2.2+1<=Am t:=by
 obtain⟨k,s,n,ps,fs,vs⟩:=t;have:=I8 h;rw[B0];have e:(Ty.mk k s n ps fs vs).fs=fs:=rfl;rw[e]at this;omega
