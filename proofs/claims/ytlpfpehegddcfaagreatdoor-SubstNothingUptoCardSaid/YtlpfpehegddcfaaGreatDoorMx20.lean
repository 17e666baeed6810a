import Derived.Test.YtlpfpehegddcfaaGreatDoorMx19
namespace Go.Proofs.YtlpfpehegddcfaaGreatDoor
set_option maxRecDepth 100000
set_option maxHeartbeats 64000000
open Go.RowKit
theorem Ql:∀ {l:Bx}{v:Z8×Int×Ty},v∈l->Am v.2.2<=Bm l
 | a :: l,v,h=>by
  have e:Bm (a :: l)=Am a.2.2+Bm l:=by simp[Bm]
  rw[e];rcases List.mem_cons.1 h with rfl|h
  ·omega
  ·have:=Ql h;omega
def Mp (l:Bx) (i:Nat) (nm:Z8):Bool:=match i with|0=>true|j+1=>match l[j]? with|none=>true|some p=>Go.Op.bytesLess p.1.toList nm.toList
theorem Tm (l:Bx) (h:∀f∈l,Ae f.2.2) {K:Nat->Prop}{w:World}{A:Option Addr}{c:Nat}(hL:Dt K w l A c) (hc:Bm l<=1000000) :
  Calls Tryz.prog 72 #[.slice A l.length c] w fun e w'=>e=.returned (.bool (Co (Bq l Aj)))/\Below w.heap.size w w':=by
 have HL:=Hd hL;have HH:=Hd h;have HC:=Hd hc;have kN:=hL.shortF;clear hL h hc;go_enter Tryz.func72,Tryz.ntmps72;go_wp2_with fail
 go_loopw [3] (fun v wr=>∃(i:Nat),i<=l.length/\v=.int .i64 i/\(∀j,j<i->R7 (Bq l Aj) j=true)/\Below w.heap.size w wr) (fun v _=>l.length - (intOf v).toNat)
 case atStart=>exact⟨0,by omega,rfl,fun j hj=>absurd hj (by omega),Below.refl _ _⟩
 case round=>
  obtain⟨i,hi,rfl,he,hb⟩:=hrel;have HE:=Hd he;have HB:=Hd hb;clear he hb;by_cases hT:i<l.length
  ·have t1:decide ((i:Int)<(l.length:Int))=true:=by simp;omega
   have kC:wrap64 ((i:Int)+1)=((i+1:Nat):Int):=Ba (by omega);have HM:=Hd (Bg hT);obtain⟨b,o,hA,_,kD⟩:=HL.o.at (by omega);obtain⟨hZ,kA,kB,cs,hS,hM⟩:=kD i hT;have hY:Z9 (R7 (Bq l Aj) i=false->Co (Bq l Aj)=false):=Hd fun e=>by unfold Co;exact F9 (by rw[En];exact hT) e
   have hE:Z9 (∀k (h:k<l.length),∃q,q=l[k].1/\w.cell? ⟨b,o+k*8,none⟩=some (.string q)):=Hd fun k h=>⟨_,rfl,(kD k h).1⟩;have hH:Z9 (R7 (Bq l Aj) i=(B6 l[i].1 && decide (0<=l[i].2.1) && decide (l[i].2.1<=3) && Aj l[i].2.2 && Mp l i l[i].1)):=Hd (by
    clear hZ kA kB hS hM hY hE;rcases i with _|j
    ·rw[Mz hT];simp[Mp]
    ·rw[My hT];simp only[Mp,List.getElem?_eq_getElem (show j<l.length by omega)])
   have hC:=Hd fun wx (hx:Below w.heap.size w wx)=>HH.o _ (List.getElem_mem hT) K wx cs (hM.later hx) (Nat.le_trans (Ql (List.getElem_mem hT)) HC.o);subst hA;generalize l[i].1=nm at hZ kB hH;generalize l[i].2.1=fl at kA hH;generalize l[i].2.2=t at hM hH hC;obtain⟨k2,s2,n2,hO,hN,hP⟩:=t;obtain⟨Aq,cq,Ag,cg,Ah,ch,rfl,-⟩:=hM.inv;simp only[Az]at hC;have HX:Z9 (∀wx,Below w.heap.size w wx->wx.cell? ⟨b,o+i*8,none⟩=some (.string nm)/\wx.cell? ⟨b,o+i*8+1,none⟩=some (.int .i64 fl)/\wx.cell? ⟨b,o+i*8+2,none⟩=some (.int .i64 k2)/\wx.cell? ⟨b,o+i*8+2+1,none⟩=some (.string s2)/\wx.cell? ⟨b,o+i*8+2+2,none⟩=some (.int .i64 n2)/\wx.cell? ⟨b,o+i*8+2+3,none⟩=some (.slice Aq hO.length cq)/\wx.cell? ⟨b,o+i*8+2+4,none⟩=some (.slice Ag hN.length cg)/\wx.cell? ⟨b,o+i*8+2+5,none⟩=some (.slice Ah hP.length ch)):=Hd fun wx hx=>
    ⟨Aa hx hZ,Aa hx kA,Aa hx (hS 0 _ rfl),Aa hx (hS 1 _ rfl),Aa hx (hS 2 _ rfl),Aa hx (hS 3 _ rfl),Aa hx (hS 4 _ rfl),Aa hx (hS 5 _ rfl)⟩
   have KN:=Hd fun wx=>Ju nm wx kB;have kI:Z9 (i+1<=l.length):=Hd hT;have hG:Z9 (∀wx,Below wr.heap.size wr wx->wx.cell? ⟨b,o+i*8,none⟩=some (.string nm)/\wx.cell? ⟨b,o+i*8+1,none⟩=some (.int .i64 fl)/\wx.cell? ⟨b,o+i*8+2,none⟩=some (.int .i64 k2)/\wx.cell? ⟨b,o+i*8+2+1,none⟩=some (.string s2)/\wx.cell? ⟨b,o+i*8+2+2,none⟩=some (.int .i64 n2)/\wx.cell? ⟨b,o+i*8+2+3,none⟩=some (.slice Aq hO.length cq)/\wx.cell? ⟨b,o+i*8+2+4,none⟩=some (.slice Ag hN.length cg)/\wx.cell? ⟨b,o+i*8+2+5,none⟩=some (.slice Ah hP.length ch)):=Hd fun wx hx=>HX.o wx (HB.o.trans (hx.mono HB.o.size));have hR:=HB.o;clear hi kD hZ kA hS hM kB;generalize Aj (.mk k2 s2 n2 hO hN hP)=qf at hH hC
   cases hn:B6 nm with
   | false=>
    have HF:=Hd (hY.o (by rw[hH.o,hn];simp));rw[hn]at KN;clear hn hR hC HX hE hH;go_wp2_with fail;refine wp_region_held_drew (S:=(fun w'=>w'.cell? ⟨b,o+i*8,none⟩=some (.string nm)/\w'.cell? ⟨b,o+i*8+1,none⟩=some (.int .i64 fl)/\w'.cell? ⟨b,o+i*8+2,none⟩=some (.int .i64 k2)/\w'.cell? ⟨b,o+i*8+2+1,none⟩=some (.string s2)/\w'.cell? ⟨b,o+i*8+2+2,none⟩=some (.int .i64 n2)/\w'.cell? ⟨b,o+i*8+2+3,none⟩=some (.slice Aq hO.length cq)/\w'.cell? ⟨b,o+i*8+2+4,none⟩=some (.slice Ag hN.length cg)/\w'.cell? ⟨b,o+i*8+2+5,none⟩=some (.slice Ah hP.length ch))) (by kernel_rfl) (hG.o _ (Below.refl _ _).drew) (fun hB=>?_);refine Ab.s [0,1,2,3,4] ?_
    iterate 5 (refine Ab.k (so rfl) hB ?_;try simp only[Act.put,Bd,Be,Bf])
    refine Ab.d ?_;refine wpAnyH_ready (rs:=[5]) (by kernel_rfl) (by simp) ?_;refine AllReadyH.cons (sd (some 15) rfl) (fun K hK=>?_) AllReadyH.nil;go_simp;refine (KN.o _).mono ?_;rintro e w2 ⟨rfl,hF⟩;have hD:=Hd ((Below.refl wr.heap.size wr).drew.trans hF);clear hF;go_wp2_with fail;refine hK.out _ _ (hG.o _ hD.o) (fun hB=>?_);clear hK K;try simp only[Act.put,Bd,Be,Bf]
    refine Ab.s [6,7] ?_
    iterate 2 (refine Ab.k (so rfl) hB ?_;try simp only[Act.put,Bd,Be,Bf])
    refine Ab.d ?_;refine Ab.s [8,9,10,11,12,13] ?_
    iterate 6 (refine Ab.t (v:=undef) (so rfl) (by kernel_rfl) (by kernel_rfl) (by kernel_rfl) (fun _ _ _ h=>h) (Or.inr ⟨by rfl,rfl⟩) hB ?_;try simp only[Act.put,Bd,Be,Bf])
    refine Ab.d ?_;refine Ab.s [14,15] ?_
    iterate 2 (refine Ab.k (so rfl) hB ?_;try simp only[Act.put,Bd,Be,Bf])
    refine Ab.d ?_;refine Ab.s [16,17,18,19,20,21] ?_
    iterate 6 (refine Ab.t (v:=undef) (so rfl) (by kernel_rfl) (by kernel_rfl) (by kernel_rfl) (fun _ _ _ h=>h) (Or.inr ⟨by rfl,rfl⟩) hB ?_;try simp only[Act.put,Bd,Be,Bf])
    refine Ab.d ?_;refine Ab.s [22,23] ?_
    iterate 2 (refine Ab.k (so rfl) hB ?_;try simp only[Act.put,Bd,Be,Bf])
    refine Ab.d ?_;refine Ab.s [24,25,26,27,28,29,30] ?_
    iterate 7 (refine Ab.t (v:=undef) (so rfl) (by kernel_rfl) (by kernel_rfl) (by kernel_rfl) (fun _ _ _ h=>h) (Or.inr ⟨by rfl,rfl⟩) hB ?_;try simp only[Act.put,Bd,Be,Bf])
    refine Ab.d ?_;refine Ab.s [31,32] ?_
    iterate 2 (refine Ab.k (so rfl) hB ?_;try simp only[Act.put,Bd,Be,Bf])
    refine Ab.d ?_;refine Ab.s [33,34,35,36,37,38,39,40,41,42,43,44,45,46,47,48] ?_
    iterate 16 (refine Ab.t (v:=undef) (so rfl) (by kernel_rfl) (by kernel_rfl) (by kernel_rfl) (fun _ _ _ h=>h) (Or.inr ⟨by rfl,rfl⟩) hB ?_;try simp only[Act.put,Bd,Be,Bf])
    refine Ab.d ?_;refine Ab.s [49] ?_;refine Ab.k (so rfl) hB ?_;try simp only[Act.put,Bd,Be,Bf]
    refine Ab.d ?_;refine wpAnyH_done (by kernel_rfl) ?_ _;clear hB;go_wp2_with fail;go_ret
    exact⟨by rw[HF.o];rfl,HB.o.trans (hD.o.mono HB.o.size)⟩
   | true=>
    rw[hn]at KN;by_cases kF:fl<0
    ·have f0:decide (fl<0)=true:=decide_eq_true kF;have HF:=Hd (hY.o (by rw[hH.o,hn,decide_eq_false (show ¬ 0<=fl by omega)];simp));clear hn hR hC HX hE hH;go_wp2_with fail;refine wp_region_held_drew (S:=(fun w'=>w'.cell? ⟨b,o+i*8,none⟩=some (.string nm)/\w'.cell? ⟨b,o+i*8+1,none⟩=some (.int .i64 fl)/\w'.cell? ⟨b,o+i*8+2,none⟩=some (.int .i64 k2)/\w'.cell? ⟨b,o+i*8+2+1,none⟩=some (.string s2)/\w'.cell? ⟨b,o+i*8+2+2,none⟩=some (.int .i64 n2)/\w'.cell? ⟨b,o+i*8+2+3,none⟩=some (.slice Aq hO.length cq)/\w'.cell? ⟨b,o+i*8+2+4,none⟩=some (.slice Ag hN.length cg)/\w'.cell? ⟨b,o+i*8+2+5,none⟩=some (.slice Ah hP.length ch))) (by kernel_rfl) (hG.o _ (Below.refl _ _).drew) (fun hB=>?_);refine Ab.s [0,1,2,3,4] ?_
     iterate 5 (refine Ab.k (so rfl) hB ?_;try simp only[Act.put,Bd,Be,Bf])
     refine Ab.d ?_;refine wpAnyH_ready (rs:=[5]) (by kernel_rfl) (by simp) ?_;refine AllReadyH.cons (sd (some 15) rfl) (fun K hK=>?_) AllReadyH.nil;go_simp;refine (KN.o _).mono ?_;rintro e w2 ⟨rfl,hF⟩;have hD:=Hd ((Below.refl wr.heap.size wr).drew.trans hF);clear hF;go_wp2_with fail;refine hK.out _ _ (hG.o _ hD.o) (fun hB=>?_);clear hK K;try simp only[Act.put,Bd,Be,Bf]
     refine Ab.s [6,7,8,9,10,11,12,13,14,15] ?_
     iterate 10 (refine Ab.k (so rfl) hB ?_;try simp only[Act.put,Bd,Be,Bf])
     refine Ab.d ?_;refine Ab.s [16,17,18,19,20,21] ?_
     iterate 6 (refine Ab.t (v:=undef) (so rfl) (by kernel_rfl) (by kernel_rfl) (by kernel_rfl) (fun _ _ _ h=>h) (Or.inr ⟨by rfl,rfl⟩) hB ?_;try simp only[Act.put,Bd,Be,Bf])
     refine Ab.d ?_;refine Ab.s [22,23] ?_
     iterate 2 (refine Ab.k (so rfl) hB ?_;try simp only[Act.put,Bd,Be,Bf])
     refine Ab.d ?_;refine Ab.s [24,25,26,27,28,29,30] ?_
     iterate 7 (refine Ab.t (v:=undef) (so rfl) (by kernel_rfl) (by kernel_rfl) (by kernel_rfl) (fun _ _ _ h=>h) (Or.inr ⟨by rfl,rfl⟩) hB ?_;try simp only[Act.put,Bd,Be,Bf])
     refine Ab.d ?_;refine Ab.s [31,32] ?_
     iterate 2 (refine Ab.k (so rfl) hB ?_;try simp only[Act.put,Bd,Be,Bf])
     refine Ab.d ?_;refine Ab.s [33,34,35,36,37,38,39,40,41,42,43,44,45,46,47,48] ?_
     iterate 16 (refine Ab.t (v:=undef) (so rfl) (by kernel_rfl) (by kernel_rfl) (by kernel_rfl) (fun _ _ _ h=>h) (Or.inr ⟨by rfl,rfl⟩) hB ?_;try simp only[Act.put,Bd,Be,Bf])
     refine Ab.d ?_;refine Ab.s [49] ?_;refine Ab.k (so rfl) hB ?_;try simp only[Act.put,Bd,Be,Bf]
     refine Ab.d ?_;refine wpAnyH_done (by kernel_rfl) ?_ _;clear hB;go_wp2_with fail;go_ret
     exact⟨by rw[HF.o];rfl,HB.o.trans (hD.o.mono HB.o.size)⟩
    ·have f0:decide (fl<0)=false:=decide_eq_false kF;by_cases kG:3<fl
     ·have f3:decide ((3:Int)<fl)=true:=decide_eq_true kG;have HF:=Hd (hY.o (by rw[hH.o,hn,decide_eq_false (show ¬ fl<=3 by omega)];simp));clear hn hR hC HX hE hH;go_wp2_with fail;refine wp_region_held_drew (S:=(fun w'=>w'.cell? ⟨b,o+i*8,none⟩=some (.string nm)/\w'.cell? ⟨b,o+i*8+1,none⟩=some (.int .i64 fl)/\w'.cell? ⟨b,o+i*8+2,none⟩=some (.int .i64 k2)/\w'.cell? ⟨b,o+i*8+2+1,none⟩=some (.string s2)/\w'.cell? ⟨b,o+i*8+2+2,none⟩=some (.int .i64 n2)/\w'.cell? ⟨b,o+i*8+2+3,none⟩=some (.slice Aq hO.length cq)/\w'.cell? ⟨b,o+i*8+2+4,none⟩=some (.slice Ag hN.length cg)/\w'.cell? ⟨b,o+i*8+2+5,none⟩=some (.slice Ah hP.length ch))) (by kernel_rfl) (hG.o _ (Below.refl _ _).drew) (fun hB=>?_);refine Ab.s [0,1,2,3,4] ?_
      iterate 5 (refine Ab.k (so rfl) hB ?_;try simp only[Act.put,Bd,Be,Bf])
      refine Ab.d ?_;refine wpAnyH_ready (rs:=[5]) (by kernel_rfl) (by simp) ?_;refine AllReadyH.cons (sd (some 15) rfl) (fun K hK=>?_) AllReadyH.nil;go_simp;refine (KN.o _).mono ?_;rintro e w2 ⟨rfl,hF⟩;have hD:=Hd ((Below.refl wr.heap.size wr).drew.trans hF);clear hF;go_wp2_with fail;refine hK.out _ _ (hG.o _ hD.o) (fun hB=>?_);clear hK K;try simp only[Act.put,Bd,Be,Bf]
      refine Ab.s [6,7,8,9,10,11,12,13,14,15,16,17,18,19,20,21,22,23] ?_
      iterate 18 (refine Ab.k (so rfl) hB ?_;try simp only[Act.put,Bd,Be,Bf])
      refine Ab.d ?_;refine Ab.s [24,25,26,27,28,29,30] ?_
      iterate 7 (refine Ab.t (v:=undef) (so rfl) (by kernel_rfl) (by kernel_rfl) (by kernel_rfl) (fun _ _ _ h=>h) (Or.inr ⟨by rfl,rfl⟩) hB ?_;try simp only[Act.put,Bd,Be,Bf])
      refine Ab.d ?_;refine Ab.s [31,32] ?_
      iterate 2 (refine Ab.k (so rfl) hB ?_;try simp only[Act.put,Bd,Be,Bf])
      refine Ab.d ?_;refine Ab.s [33,34,35,36,37,38,39,40,41,42,43,44,45,46,47,48] ?_
      iterate 16 (refine Ab.t (v:=undef) (so rfl) (by kernel_rfl) (by kernel_rfl) (by kernel_rfl) (fun _ _ _ h=>h) (Or.inr ⟨by rfl,rfl⟩) hB ?_;try simp only[Act.put,Bd,Be,Bf])
      refine Ab.d ?_;refine Ab.s [49] ?_;refine Ab.k (so rfl) hB ?_;try simp only[Act.put,Bd,Be,Bf]
      refine Ab.d ?_;refine wpAnyH_done (by kernel_rfl) ?_ _;clear hB;go_wp2_with fail;go_ret
      exact⟨by rw[HF.o];rfl,HB.o.trans (hD.o.mono HB.o.size)⟩
     ·have f3:decide ((3:Int)<fl)=false:=decide_eq_false kG;have hX:Z9 (B6 nm=true/\decide (0<=fl)=true/\decide (fl<=3)=true):=Hd ⟨hn,decide_eq_true (by omega),decide_eq_true (by omega)⟩;clear kF kG hn
      cases qf with
      | false=>
       have HF:=Hd (hY.o (by rw[hH.o];simp));clear hR HX hE hH;go_wp2_with fail;refine wp_region_held_drew (S:=(fun w'=>w'.cell? ⟨b,o+i*8,none⟩=some (.string nm)/\w'.cell? ⟨b,o+i*8+1,none⟩=some (.int .i64 fl)/\w'.cell? ⟨b,o+i*8+2,none⟩=some (.int .i64 k2)/\w'.cell? ⟨b,o+i*8+2+1,none⟩=some (.string s2)/\w'.cell? ⟨b,o+i*8+2+2,none⟩=some (.int .i64 n2)/\w'.cell? ⟨b,o+i*8+2+3,none⟩=some (.slice Aq hO.length cq)/\w'.cell? ⟨b,o+i*8+2+4,none⟩=some (.slice Ag hN.length cg)/\w'.cell? ⟨b,o+i*8+2+5,none⟩=some (.slice Ah hP.length ch))) (by kernel_rfl) (hG.o _ (Below.refl _ _).drew) (fun hB=>?_);refine Ab.s [0,1,2,3,4] ?_
       iterate 5 (refine Ab.k (so rfl) hB ?_;try simp only[Act.put,Bd,Be,Bf])
       refine Ab.d ?_;refine wpAnyH_ready (rs:=[5]) (by kernel_rfl) (by simp) ?_;refine AllReadyH.cons (sd (some 15) rfl) (fun K hK=>?_) AllReadyH.nil;go_simp;refine (KN.o _).mono ?_;rintro e w2 ⟨rfl,hF⟩;have hD:=Hd ((Below.refl wr.heap.size wr).drew.trans hF);clear hF;go_wp2_with fail;refine hK.out _ _ (hG.o _ hD.o) (fun hB=>?_);clear hK K;try simp only[Act.put,Bd,Be,Bf]
       refine Ab.s [6,7,8,9,10,11,12,13,14,15,16,17,18,19,20,21,22,23,24,25,26,27,28] ?_
       iterate 23 (refine Ab.k (so rfl) hB ?_;try simp only[Act.put,Bd,Be,Bf])
       refine Ab.d ?_;refine wpAnyH_ready (rs:=[29]) (by kernel_rfl) (by simp) ?_;refine AllReadyH.cons (sd (some 39) rfl) (fun K hK=>?_) AllReadyH.nil;go_simp;refine (hC.o _ (HB.o.trans (hD.o.mono HB.o.size))).mono ?_;rintro e w3 ⟨rfl,hJ⟩;have hI:=Hd (hD.o.trans (hJ.mono hD.o.size));clear hJ;go_wp2_with fail;refine hK.out _ _ (hG.o _ hI.o) (fun hB=>?_);clear hK K;try simp only[Act.put,Bd,Be,Bf]
       refine Ab.s [30,31,32] ?_
       iterate 3 (refine Ab.k (so rfl) hB ?_;try simp only[Act.put,Bd,Be,Bf])
       refine Ab.d ?_;refine Ab.s [33,34,35,36,37,38,39,40,41,42,43,44,45,46,47,48] ?_
       iterate 16 (refine Ab.t (v:=undef) (so rfl) (by kernel_rfl) (by kernel_rfl) (by kernel_rfl) (fun _ _ _ h=>h) (Or.inr ⟨by rfl,rfl⟩) hB ?_;try simp only[Act.put,Bd,Be,Bf])
       refine Ab.d ?_;refine Ab.s [49] ?_;refine Ab.k (so rfl) hB ?_;try simp only[Act.put,Bd,Be,Bf]
       refine Ab.d ?_;refine wpAnyH_done (by kernel_rfl) ?_ _;clear hB;go_wp2_with fail;go_ret
       exact⟨by rw[HF.o];rfl,HB.o.trans (hI.o.mono HB.o.size)⟩
      | true=>
       rcases Nat.eq_zero_or_pos i with h0|kH
       ·subst h0;have hU:Z9 (∀j,j<0+1->R7 (Bq l Aj) j=true):=Hd fun j hj=>by
         have:j=0:=by omega
         subst this;rw[hH.o,hX.o.1,hX.o.2.1,hX.o.2.2];rfl
        simp only[Nat.zero_mul,Nat.add_zero]at hG hC;clear hR HX hE hH;go_wp2_with fail;refine wp_region_held_drew (S:=(fun w'=>w'.cell? ⟨b,o,none⟩=some (.string nm)/\w'.cell? ⟨b,o+1,none⟩=some (.int .i64 fl)/\w'.cell? ⟨b,o+2,none⟩=some (.int .i64 k2)/\w'.cell? ⟨b,o+2+1,none⟩=some (.string s2)/\w'.cell? ⟨b,o+2+2,none⟩=some (.int .i64 n2)/\w'.cell? ⟨b,o+2+3,none⟩=some (.slice Aq hO.length cq)/\w'.cell? ⟨b,o+2+4,none⟩=some (.slice Ag hN.length cg)/\w'.cell? ⟨b,o+2+5,none⟩=some (.slice Ah hP.length ch))) (by kernel_rfl) (hG.o _ (Below.refl _ _).drew) (fun hB=>?_);refine Ab.s [0,1,2,3,4] ?_
        iterate 5 (refine Ab.k (so rfl) hB ?_;try simp only[Act.put,Bd,Be,Bf])
        refine Ab.d ?_;refine wpAnyH_ready (rs:=[5]) (by kernel_rfl) (by simp) ?_;refine AllReadyH.cons (sd (some 15) rfl) (fun K hK=>?_) AllReadyH.nil;go_simp;refine (KN.o _).mono ?_;rintro e w2 ⟨rfl,hF⟩;have hD:=Hd ((Below.refl wr.heap.size wr).drew.trans hF);clear hF;go_wp2_with fail;refine hK.out _ _ (hG.o _ hD.o) (fun hB=>?_);clear hK K;try simp only[Act.put,Bd,Be,Bf]
        refine Ab.s [6,7,8,9,10,11,12,13,14,15,16,17,18,19,20,21,22,23,24,25,26,27,28] ?_
        iterate 23 (refine Ab.k (so rfl) hB ?_;try simp only[Act.put,Bd,Be,Bf])
        refine Ab.d ?_;refine wpAnyH_ready (rs:=[29]) (by kernel_rfl) (by simp) ?_;refine AllReadyH.cons (sd (some 39) rfl) (fun K hK=>?_) AllReadyH.nil;go_simp;refine (hC.o _ (HB.o.trans (hD.o.mono HB.o.size))).mono ?_;rintro e w3 ⟨rfl,hJ⟩;have hI:=Hd (hD.o.trans (hJ.mono hD.o.size));clear hJ;go_wp2_with fail;refine hK.out _ _ (hG.o _ hI.o) (fun hB=>?_);clear hK K;try simp only[Act.put,Bd,Be,Bf]
        refine Ab.s [30,31,32,33,34,35] ?_
        iterate 6 (refine Ab.k (so rfl) hB ?_;try simp only[Act.put,Bd,Be,Bf])
        refine Ab.d ?_;refine Ab.s [36,37,38,39,40,41,42,43,44,45,46,47] ?_
        iterate 12 (refine Ab.t (v:=undef) (so rfl) (by kernel_rfl) (by kernel_rfl) (by kernel_rfl) (fun _ _ _ h=>h) (Or.inr ⟨by rfl,rfl⟩) hB ?_;try simp only[Act.put,Bd,Be,Bf])
        refine Ab.d ?_;refine Ab.s [48,49] ?_
        iterate 2 (refine Ab.k (so rfl) hB ?_;try simp only[Act.put,Bd,Be,Bf])
        refine Ab.d ?_;refine wpAnyH_done (by kernel_rfl) ?_ _;clear hB;go_wp2_with fail;refine⟨⟨0+1,kI.o,by first|rfl|rw[kC],hU.o,HB.o.trans (hI.o.mono HB.o.size)⟩,?_⟩;first|exact HM.o|(rw[kC];exact HM.o)
       ·obtain⟨m,hm⟩:∃m,i=m+1:=⟨i - 1,by omega⟩;obtain⟨q,hq,hV⟩:=hE.o m (by omega);have kE:=Aa hR hV;have hW:Z9 (∀wx,Below wr.heap.size wr wx->wx.cell? ⟨b,o+m*8,none⟩=some (.string q)):=Hd fun wx hx=>Aa hx kE;have kL:wrap64 ((i:Int) - 1)=((m:Nat):Int):=(by rw[Cm (by omega) (by omega)];omega);have wr1':IntKind.i64.wrap ((i:Int) - 1)=((m:Nat):Int):=by
         have e:IntKind.i64.wrap ((i:Int) - 1)=wrap64 ((i:Int) - 1):=(by unfold wrap64;exact IntKind.wrap_i64 _);rw[e,kL]
        have kM:wrap64 (m:Int)=(m:Int):=Cm (by omega) (by omega);have wr3':IntKind.i64.wrap (m:Int)=(m:Int):=by
         have e:IntKind.i64.wrap (m:Int)=wrap64 (m:Int):=(by unfold wrap64;exact IntKind.wrap_i64 _);rw[e,kM]
        have i2:(0:Int)<=(m:Int):=(by omega);have i3:(m:Int)<(l.length:Int):=(by omega);have i5:m<l.length:=(by omega);have i4:(0:Int)<(i:Int):=(by omega);have i6:decide ((0:Int)<(i:Int))=true:=decide_eq_true i4;have i7:decide (0<i)=true:=decide_eq_true kH;have hQ:Z9 (Mp l i nm=Go.Op.bytesLess q.toList nm.toList):=Hd (by
         subst hm;simp only[Mp,List.getElem?_eq_getElem (show m<l.length by omega)];rw[hq])
        cases kJ:Go.Op.bytesLess q.toList nm.toList with
        | true=>
         have hU:Z9 (∀j,j<i+1->R7 (Bq l Aj) j=true):=Hd fun j hj=>by
          rcases Nat.lt_or_ge j i with h1|h1
          ·exact HE.o j h1
          ·have:j=i:=by omega
           subst this;rw[hH.o,hX.o.1,hX.o.2.1,hX.o.2.2,hQ.o,kJ];rfl
         clear hR HX hE hH hq hV kE hm;go_wp2_with fail;refine wp_region_held_drew (S:=(fun w'=>(w'.cell? ⟨b,o+i*8,none⟩=some (.string nm)/\w'.cell? ⟨b,o+i*8+1,none⟩=some (.int .i64 fl)/\w'.cell? ⟨b,o+i*8+2,none⟩=some (.int .i64 k2)/\w'.cell? ⟨b,o+i*8+2+1,none⟩=some (.string s2)/\w'.cell? ⟨b,o+i*8+2+2,none⟩=some (.int .i64 n2)/\w'.cell? ⟨b,o+i*8+2+3,none⟩=some (.slice Aq hO.length cq)/\w'.cell? ⟨b,o+i*8+2+4,none⟩=some (.slice Ag hN.length cg)/\w'.cell? ⟨b,o+i*8+2+5,none⟩=some (.slice Ah hP.length ch))/\w'.cell? ⟨b,o+m*8,none⟩=some (.string q))) (by kernel_rfl) (⟨hG.o _ (Below.refl _ _).drew,hW.o _ (Below.refl _ _).drew⟩) (fun hB=>?_);refine Ab.s [0,1,2,3,4] ?_
         iterate 5 (refine Ab.k (so rfl) hB ?_;try simp only[Act.put,Bd,Be,Bf])
         refine Ab.d ?_;refine wpAnyH_ready (rs:=[5]) (by kernel_rfl) (by simp) ?_;refine AllReadyH.cons (sd (some 15) rfl) (fun K hK=>?_) AllReadyH.nil;go_simp;refine (KN.o _).mono ?_;rintro e w2 ⟨rfl,hF⟩;have hD:=Hd ((Below.refl wr.heap.size wr).drew.trans hF);clear hF;go_wp2_with fail;refine hK.out _ _ (⟨hG.o _ hD.o,hW.o _ hD.o⟩) (fun hB=>?_);clear hK K;try simp only[Act.put,Bd,Be,Bf]
         refine Ab.s [6,7,8,9,10,11,12,13,14,15,16,17,18,19,20,21,22,23,24,25,26,27,28] ?_
         iterate 23 (refine Ab.k (so rfl) hB ?_;try simp only[Act.put,Bd,Be,Bf])
         refine Ab.d ?_;refine wpAnyH_ready (rs:=[29]) (by kernel_rfl) (by simp) ?_;refine AllReadyH.cons (sd (some 39) rfl) (fun K hK=>?_) AllReadyH.nil;go_simp;refine (hC.o _ (HB.o.trans (hD.o.mono HB.o.size))).mono ?_;rintro e w3 ⟨rfl,hJ⟩;have hI:=Hd (hD.o.trans (hJ.mono hD.o.size));clear hJ;go_wp2_with fail;refine hK.out _ _ (⟨hG.o _ hI.o,hW.o _ hI.o⟩) (fun hB=>?_);clear hK K;try simp only[Act.put,Bd,Be,Bf]
         refine Ab.s [30,31,32,33,34,35,36,37,38,39,40,41,42,43,44,45,46,47,48,49] ?_
         iterate 20 (refine Ab.k (so rfl) hB ?_;try simp only[Act.put,Bd,Be,Bf])
         refine Ab.d ?_;refine wpAnyH_done (by kernel_rfl) ?_ _;clear hB;go_wp2_with fail;refine⟨⟨i+1,kI.o,by first|rfl|rw[kC],hU.o,HB.o.trans (hI.o.mono HB.o.size)⟩,?_⟩;first|exact HM.o|(rw[kC];exact HM.o)
        | false=>
         have HF:=Hd (hY.o (by rw[hH.o,hQ.o,kJ];simp));clear hR HX hE hH hq hV kE hm;go_wp2_with fail;refine wp_region_held_drew (S:=(fun w'=>(w'.cell? ⟨b,o+i*8,none⟩=some (.string nm)/\w'.cell? ⟨b,o+i*8+1,none⟩=some (.int .i64 fl)/\w'.cell? ⟨b,o+i*8+2,none⟩=some (.int .i64 k2)/\w'.cell? ⟨b,o+i*8+2+1,none⟩=some (.string s2)/\w'.cell? ⟨b,o+i*8+2+2,none⟩=some (.int .i64 n2)/\w'.cell? ⟨b,o+i*8+2+3,none⟩=some (.slice Aq hO.length cq)/\w'.cell? ⟨b,o+i*8+2+4,none⟩=some (.slice Ag hN.length cg)/\w'.cell? ⟨b,o+i*8+2+5,none⟩=some (.slice Ah hP.length ch))/\w'.cell? ⟨b,o+m*8,none⟩=some (.string q))) (by kernel_rfl) (⟨hG.o _ (Below.refl _ _).drew,hW.o _ (Below.refl _ _).drew⟩) (fun hB=>?_);refine Ab.s [0,1,2,3,4] ?_
         iterate 5 (refine Ab.k (so rfl) hB ?_;try simp only[Act.put,Bd,Be,Bf])
         refine Ab.d ?_;refine wpAnyH_ready (rs:=[5]) (by kernel_rfl) (by simp) ?_;refine AllReadyH.cons (sd (some 15) rfl) (fun K hK=>?_) AllReadyH.nil;go_simp;refine (KN.o _).mono ?_;rintro e w2 ⟨rfl,hF⟩;have hD:=Hd ((Below.refl wr.heap.size wr).drew.trans hF);clear hF;go_wp2_with fail;refine hK.out _ _ (⟨hG.o _ hD.o,hW.o _ hD.o⟩) (fun hB=>?_);clear hK K;try simp only[Act.put,Bd,Be,Bf]
         refine Ab.s [6,7,8,9,10,11,12,13,14,15,16,17,18,19,20,21,22,23,24,25,26,27,28] ?_
         iterate 23 (refine Ab.k (so rfl) hB ?_;try simp only[Act.put,Bd,Be,Bf])
         refine Ab.d ?_;refine wpAnyH_ready (rs:=[29]) (by kernel_rfl) (by simp) ?_;refine AllReadyH.cons (sd (some 39) rfl) (fun K hK=>?_) AllReadyH.nil;go_simp;refine (hC.o _ (HB.o.trans (hD.o.mono HB.o.size))).mono ?_;rintro e w3 ⟨rfl,hJ⟩;have hI:=Hd (hD.o.trans (hJ.mono hD.o.size));clear hJ;go_wp2_with fail;refine hK.out _ _ (⟨hG.o _ hI.o,hW.o _ hI.o⟩) (fun hB=>?_);clear hK K;try simp only[Act.put,Bd,Be,Bf]
         refine Ab.s [30,31,32,33,34,35,36,37,38,39,40,41,42,43,44,45,46,47,48,49] ?_
         iterate 20 (refine Ab.k (so rfl) hB ?_;try simp only[Act.put,Bd,Be,Bf])
         refine Ab.d ?_;refine wpAnyH_done (by kernel_rfl) ?_ _;clear hB;go_wp2_with fail;go_ret
         exact⟨by rw[HF.o];rfl,HB.o.trans (hI.o.mono HB.o.size)⟩
  ·have t1:decide ((i:Int)<(l.length:Int))=false:=by simp;omega
   have kK:Z9 (Co (Bq l Aj)=true):=Hd (by unfold Co;rw[Et];exact fun j hj=>HE.o j (by rw[En]at hj;omega));clear hi;go_wp2_with fail;go_ret
   exact⟨by rw[kK.o];rfl,HB.o⟩
theorem Mh:Bv.toList=[]:=by rw[ByteArray.toList_eq];rfl
theorem Rg {k:Int}(h1:1<=k) (h8:k<=8):Aj (Hi k)=true:=by
 unfold Hi;rw[Ay];have hs:Ak k=⟨false,false,false,false,0,0,true⟩:=by unfold Ak;rw[if_pos ⟨h1,h8⟩]
 rw[hs];unfold Bs;rw[if_neg (by omega),if_neg (by omega),if_neg (by omega),if_neg (by omega),if_neg (by omega),if_neg (by omega),if_neg (by omega),if_neg (by omega)];unfold Ao;simp[Mh]
theorem D9 {t:Ty}(h:Aj t=true):∀p∈t.ps,Aj p=true:=by
 obtain⟨k,s,n,ps,fs,vs⟩:=t;rw[Ay,Bool.and_eq_true,List.all_eq_true]at h;exact h.2
theorem Og {k:Int}{t:Z8}{n:Int}{ps:List Ty}{fs:Bx}{vs:Bt}(h:Aj (.mk k t n ps fs vs)=true):Bs k t n ps (Co (Bq fs Aj)) (Eo (Dj vs Aj))=true:=by
 rw[Ay,Bool.and_eq_true,Bool.and_eq_true]at h;exact h.1.2
theorem Lq {t:Z8}{n:Int}{ps:List Ty}{fs:Bx}{vs:Bt}(h:Aj (.mk 15 t n ps fs vs)=true):2<=ps.length/\t=Bv/\n=0/\fs=[]/\vs=[]/\H5 ps=true:=by
 have hf:=Dg h;have hs:Ak 15=⟨false,false,false,false,2,-1,true⟩:=rfl;rw[hs]at hf;unfold Ao at hf;simp only[Bool.and_eq_true,Bool.not_eq_true',Bool.or_eq_false_iff,Bool.or_eq_true,decide_eq_true_eq,beq_iff_eq,Bool.not_false,Bool.true_and,decide_eq_false_iff_not]at hf;obtain⟨⟨⟨⟨h1,h2⟩,h3⟩,h4⟩,h5,h6⟩:=hf;refine⟨by omega,E7 ?_,by simpa using h2,List.eq_nil_of_length_eq_zero (by omega),List.eq_nil_of_length_eq_zero (by omega),?_⟩
 ·have:t.toList=[]:=by simpa using h1
  rw[ByteArray.toList_eq]at this;rw[this];rfl
 ·have:=Og h;unfold Bs at this;simpa using this
theorem Ie {t:Ty}(h:Aj t=true) (hk:t.k=15):E5 t.ps=t:=by
 obtain⟨k,s,n,ps,fs,vs⟩:=t;have hk':k=15:=hk;subst hk';obtain⟨h2,rfl,rfl,rfl,rfl,hu⟩:=Lq h;exact (Om h2).1 hu
theorem Qw {t:Ty}(h:Aj t=true) (hk:t.k=14):Co (Bq t.fs Aj)=true:=by
 obtain⟨k,s,n,ps,fs,vs⟩:=t;have hk':k=14:=hk;subst hk';have:=Og h;unfold Bs at this;have h2:Co (Bq fs Aj)=true:=by simpa using this
 exact h2
theorem Sx {fs:Bx}(h:Co (Bq fs Aj)=true) {i:Nat}(hi:i<fs.length):B6 fs[i].1=true/\0<=fs[i].2.1/\fs[i].2.1<=3/\Aj fs[i].2.2=true:=by
 unfold Co at h;rw[Et]at h;have:=h i (by rw[En];exact hi);rcases i with _|i
 ·rw[Mz hi]at this;simp only[Bool.and_eq_true,decide_eq_true_eq]at this;exact⟨this.1.1.1,this.1.1.2,this.1.2,this.2⟩
 ·rw[My hi]at this;simp only[Bool.and_eq_true,decide_eq_true_eq]at this;exact⟨this.1.1.1.1,this.1.1.1.2,this.1.1.2,this.1.2⟩
theorem Qu {fs:Bx}(h:Co (Bq fs Aj)=true) {f:Z8×Int×Ty}(hf:f∈fs):B6 f.1=true/\0<=f.2.1/\f.2.1<=3/\Aj f.2.2=true:=by
 obtain⟨i,hi,rfl⟩:=List.getElem_of_mem hf;exact Sx h hi
theorem G1 (l m:List Ty):Au (l++m)=Au l+Au m:=by simp[Au]
theorem G2:Au []=0:=rfl
theorem Kw (q:Ty->Bool):∀l:List Ty,Au (l.filter q)<=Au l
 | []=>Nat.le_refl _
 | a :: l=>by
  have:=Kw q l;rw[List.filter_cons]
  split
  ·rw[Cl,Cl];omega
  ·rw[Cl];omega
theorem Qm (t:Ty):∀l,Au (Fv t l)<=Am t+Au l
 | []=>by simp[Fv,Au]
 | x :: l=>by
  have:=Qm t l;unfold Fv
  repeat' split
  all_goals simp only[Cl]at *
  all_goals omega
theorem N5:∀l,Au (Eh l)<=Au l
 | []=>Nat.le_refl _
 | a :: l=>by
  have h1:=N5 l;have h2:=Qm a (Eh l);have e:Eh (a :: l)=Fv a (Eh l):=rfl;rw[e,Cl];omega
theorem Hn:∀(l:List Ty),(∀p∈l,Au (Ds p)<=Am p)->Au (Bz l)<=Au l
 | [],_=>Nat.le_refl _
 | a :: l,h=>by
  have h1:=h a List.mem_cons_self;have h2:=Hn l fun q hq=>h q (List.mem_cons_of_mem _ hq);rw[I9,G1,Cl];omega
theorem Qn (t:Ty):Au (Ds t)<=Am t:=by
 refine Ty.ind (C:=fun t=>Au (Ds t)<=Am t) (fun k t n ps fs vs hp _ _=>?_) t;rw[C6]
 split
 ·have:=Hn ps hp;rw[Bu];omega
 ·rw[Cl,G2];omega
theorem Vt (l:List Ty):Au (Bz l)<=Au l:=Hn l fun p _=>Qn p
theorem Qq (k:Int):Am (Hi k)=1:=by unfold Hi;rw[Bu];rfl
theorem Vz (l:List Ty):Am (E5 l)<=Au l+1:=by
 have h1:=N5 (Gv l);have h2:=Kw (Fa (D1 (Bz l))) (Bz l);have h3:=Vt l;have h4:Au (Gv l)=Au ((Bz l).filter (Fa (D1 (Bz l)))):=rfl;unfold E5;generalize Eh (Gv l)=s at h1;rcases s with _|⟨x,_|⟨y,s⟩⟩
 ·show Am (Hi 1)<=_;rw[Qq];omega
 ·show Am x<=_;rw[Cl,G2]at h1;omega
 ·show Am (.mk 15 Bv 0 (x :: y :: s) [] [])<=_;rw[Bu];have e1:Bm []=0:=rfl;have e2:Bl []=0:=rfl;omega
theorem Ip:∀ {l:Bx}{v:Z8×Int×Ty},v∈l->Am v.2.2<=Bm l
 | a :: l,v,h=>by
  have e:Bm (a :: l)=Am a.2.2+Bm l:=by simp[Bm]
  rw[e];rcases List.mem_cons.1 h with rfl|h
  ·omega
  ·have:=Ip h;omega
def Ji:Ty->Bool
 | .mk _ _ _ ps fs vs=>decide (vs.length<=1048576) && ((vs.attach.all fun ⟨v,_⟩=>v.2.attach.all fun ⟨b,_⟩=>Ji b) && ((ps.attach.all fun ⟨p,_⟩=>Ji p) && (fs.attach.all fun ⟨f,_⟩=>Ji f.2.2)))
termination_by t=>SizeOf.sizeOf t
decreasing_by
 ·exact E2 ‹_› ‹_›
 ·exact D2 ‹_›
 ·exact Ei ‹_›
theorem Jau (k t n ps fs vs):Ji (.mk k t n ps fs vs)=(decide (vs.length<=1048576) && ((vs.all fun v=>v.2.all Ji) && (ps.all Ji && fs.all fun f=>Ji f.2.2))):=by
 rw[Ji];have h1:(ps.attach.all fun p=>Ji p.1)=ps.all Ji:=Di Ji ps;have h2:(fs.attach.all fun f=>Ji f.1.2.2)=fs.all fun f=>Ji f.2.2:=Di (fun f:Z8×Int×Ty=>Ji f.2.2) fs;have h3:(vs.attach.all fun v=>v.1.2.attach.all fun b=>Ji b.1)=vs.all fun v=>v.2.all Ji:=by
  have e:(fun v:{v // v∈vs}=>v.1.2.attach.all fun b=>Ji b.1)=fun v:{v // v∈vs}=>v.1.2.all Ji:=by
   funext v;exact Di Ji v.1.2
  rw[e];exact Di (fun v:Z8×List Ty=>v.2.all Ji) vs
 rw[h1,h2,h3]
theorem Ve {k:Int}{t:Z8}{n:Int}{ps:List Ty}{fs:Bx}{vs:Bt}(h:Ji (.mk k t n ps fs vs)=true):vs.length<=1048576/\(∀v∈vs,∀b∈v.2,Ji b=true)/\(∀p∈ps,Ji p=true)/\∀f∈fs,Ji f.2.2=true:=by
 rw[Jau,Bool.and_eq_true,Bool.and_eq_true,Bool.and_eq_true,decide_eq_true_eq,List.all_eq_true,List.all_eq_true,List.all_eq_true]at h;exact⟨h.1,fun v hv b hb=>List.all_eq_true.1 (h.2.1 v hv) b hb,h.2.2.1,h.2.2.2⟩
theorem G4 {α β:Type}(f:α->List β) (g:α->Nat) (M:Nat):∀l:List α,(∀a∈l,(f a).length<=g a*M)->(l.map f).flatten.length<=(l.map g).sum*M
 | [],_=>by simp
 | a :: l,h=>by
  have h1:=h a List.mem_cons_self;have h2:=G4 f g M l fun b hb=>h b (List.mem_cons_of_mem _ hb);simp only[List.map_cons,List.flatten_cons,List.length_append,List.sum_cons,Nat.add_mul];omega
theorem Tk (ps:List Ty):(Cu ps).length<=Au ps:=by
 unfold Cu
 cases h:ps[1]? with
 | none=>simp
 | some p=>exact Nat.le_trans (Er p) (Fe (List.mem_of_getElem? h))
theorem N6:∀ {l:Bt}{v:Z8×List Ty},v∈l->Au v.2<=Bl l
 | a :: l,v,h=>by
  unfold Bl;rw[List.map_cons,List.sum_cons];rcases List.mem_cons.1 h with rfl|h
  ·omega
  ·have:=N6 h;unfold Bl at this;omega
theorem Ja3 (t:Ty):Am t<=4096->Ji t=true->(Ed t).length<=Am t*2000000:=by
 refine Ty.ind (C:=fun t=>Am t<=4096->Ji t=true->(Ed t).length<=Am t*2000000) (fun k t n ps fs vs hp hf hv=>?_) t;intro hc hb;obtain⟨b1,b2,b3,b4⟩:=Ve hb;have hm:=Bu k t n ps fs vs;have hn:=Tk ps;have h1:=G4 Ed Am 2000000 ps fun p h=>hp p h (by have:=Fe h;omega) (b3 p h);have h2:=G4 (fun f:Z8×Int×Ty=>Ed f.2.2) (fun f=>Am f.2.2) 2000000 fs fun f h=>hf f h (by have:=Ip h;omega) (b4 f h);have h3:=G4 (fun v:Z8×List Ty=>(v.2.map Ed).flatten) (fun v=>Au v.2) 2000000 vs fun v h=>G4 Ed Am 2000000 v.2 fun b hA=>hv v h b hA (by have h1:=Fe hA;have h2:=N6 h;omega) (b2 v h b hA);change _<=Au ps*_ at h1;change _<=Bm fs*_ at h2;change _<=Bl vs*_ at h3;rw[D7,hm];simp only[List.length_cons,List.length_append,List.length_map];simp only[Nat.add_mul];omega
