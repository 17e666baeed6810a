import Derived.Test.YtlpfpehegddcfaaGreatDoorMv20
namespace Go.Proofs.YtlpfpehegddcfaaGreatDoor
set_option maxRecDepth 100000
set_option maxHeartbeats 64000000
open Go.RowKit
theorem Qd:∀ {l:Bp} {v:ByteArray×Int×Ty},v∈l->Ai v.2.2<=Bd l
 | a :: l,v,h=>by
  have e:Bd (a :: l)=Ai a.2.2+Bd l:=by simp[Bd]
  rw[e];rcases List.mem_cons.1 h with rfl | h
  ·omega
  ·have:=Qd h;omega
def Mo (l:Bp) (i:Nat) (nm:ByteArray):Bool:=match i with | 0=>true | j+1=>match l[j]? with | none=>true | some p=>Go.Op.bytesLess p.1.toList nm.toList
theorem S8 (l:Bp) (h:∀ f∈l,Ad f.2.2) {K:Nat->Prop} {w:World} {A:Option Addr} {c:Nat} (hL:ListF K w l A c) (hc:Bd l<=1000000) :
  Calls Tryz.prog 72 #[.slice A l.length c] w fun e w'=>e=.returned (.bool (Ca (Bf l Ab)))/\Below w.heap.size w w':=by
 have HL:=Hd hL;have HH:=Hd h;have HC:=Hd hc;have hll:=hL.shortF;clear hL h hc;go_enter Tryz.func72,Tryz.ntmps72;go_wp2_with fail
 go_loopw [3] (fun v wr=>∃ (i:Nat),i<=l.length/\v=.int .i64 i/\(∀ j,j<i->Rs (Bf l Ab) j=true)/\Below w.heap.size w wr) (fun v _=>l.length - (intOf v).toNat)
 case atStart=>exact⟨0,by omega,rfl,fun j hj=>absurd hj (by omega),Below.refl _ _⟩
 case round=>
  obtain⟨i,hi,rfl,he,hb⟩:=hrel;have HE:=Hd he;have HB:=Hd hb;clear he hb;by_cases hin:i<l.length
  ·have t1:decide ((i:Int)<(l.length:Int))=true:=by simp;omega
   have wr2:wrap64 ((i:Int)+1)=((i+1:Nat):Int):=Ao (by omega);have HM:=Hd (Ba hin);obtain⟨b,o,hA,_,hat⟩:=HL.out.at (by omega);obtain⟨hc0,hc1,hsz,cs,hcs,hrep⟩:=hat i hin;have HNO:Hid (Rs (Bf l Ab) i=false->Ca (Bf l Ab)=false):=Hd fun e=>by unfold Ca;exact Fy (by rw[D2];exact hin) e
   have HCell:Hid (∀ k (h:k<l.length),∃ q,q=l[k].1/\w.cell? ⟨b,o+k*8,none⟩=some (.string q)):=Hd fun k h=>⟨_,rfl,(hat k h).1⟩;have HOK:Hid (Rs (Bf l Ab) i=(Bo l[i].1 && decide (0<=l[i].2.1) && decide (l[i].2.1<=3) && Ab l[i].2.2 && Mo l i l[i].1)):=Hd (by
    clear hc0 hc1 hsz hcs hrep HNO HCell;rcases i with _ | j
    ·rw[Mz hin];simp[Mo]
    ·rw[My hin];simp only[Mo,List.getElem?_eq_getElem (show j<l.length by omega)])
   have KForm:=Hd fun wx (hx:Below w.heap.size w wx)=>HH.out _ (List.getElem_mem hin) K wx cs (hrep.later hx) (Nat.le_trans (Qd (List.getElem_mem hin)) HC.out);subst hA;generalize l[i].1=nm at hc0 hsz HOK;generalize l[i].2.1=fl at hc1 HOK;generalize l[i].2.2=t at hrep HOK KForm;obtain⟨k2,s2,n2,ps2,fs2,vs2⟩:=t;obtain⟨Aq,cq,Ag,cg,Ah,ch,rfl,-⟩:=hrep.inv;simp only[Ar] at KForm;have HX:Hid (∀ wx,Below w.heap.size w wx->wx.cell? ⟨b,o+i*8,none⟩=some (.string nm)/\wx.cell? ⟨b,o+i*8+1,none⟩=some (.int .i64 fl)/\wx.cell? ⟨b,o+i*8+2,none⟩=some (.int .i64 k2)/\wx.cell? ⟨b,o+i*8+2+1,none⟩=some (.string s2)/\wx.cell? ⟨b,o+i*8+2+2,none⟩=some (.int .i64 n2)/\wx.cell? ⟨b,o+i*8+2+3,none⟩=some (.slice Aq ps2.length cq)/\wx.cell? ⟨b,o+i*8+2+4,none⟩=some (.slice Ag fs2.length cg)/\wx.cell? ⟨b,o+i*8+2+5,none⟩=some (.slice Ah vs2.length ch)):=Hd fun wx hx=>
    ⟨Aa hx hc0,Aa hx hc1,Aa hx (hcs 0 _ rfl),Aa hx (hcs 1 _ rfl),Aa hx (hcs 2 _ rfl),Aa hx (hcs 3 _ rfl),Aa hx (hcs 4 _ rfl),Aa hx (hcs 5 _ rfl)⟩
   have KN:=Hd fun wx=>Jj nm wx hsz;have HIn:Hid (i+1<=l.length):=Hd hin;have HCC:Hid (∀ wx,Below wr.heap.size wr wx->wx.cell? ⟨b,o+i*8,none⟩=some (.string nm)/\wx.cell? ⟨b,o+i*8+1,none⟩=some (.int .i64 fl)/\wx.cell? ⟨b,o+i*8+2,none⟩=some (.int .i64 k2)/\wx.cell? ⟨b,o+i*8+2+1,none⟩=some (.string s2)/\wx.cell? ⟨b,o+i*8+2+2,none⟩=some (.int .i64 n2)/\wx.cell? ⟨b,o+i*8+2+3,none⟩=some (.slice Aq ps2.length cq)/\wx.cell? ⟨b,o+i*8+2+4,none⟩=some (.slice Ag fs2.length cg)/\wx.cell? ⟨b,o+i*8+2+5,none⟩=some (.slice Ah vs2.length ch)):=Hd fun wx hx=>HX.out wx (HB.out.trans (hx.mono HB.out.size));have hbr:=HB.out;clear hi hat hc0 hc1 hcs hrep hsz;generalize Ab (.mk k2 s2 n2 ps2 fs2 vs2)=qf at HOK KForm
   cases hn:Bo nm with
   | false=>
    have HF:=Hd (HNO.out (by rw[HOK.out,hn];simp));rw[hn] at KN;clear hn hbr KForm HX HCell HOK;go_wp2_with fail;refine wp_region_held_drew (S:=(fun w'=>w'.cell? ⟨b,o+i*8,none⟩=some (.string nm)/\w'.cell? ⟨b,o+i*8+1,none⟩=some (.int .i64 fl)/\w'.cell? ⟨b,o+i*8+2,none⟩=some (.int .i64 k2)/\w'.cell? ⟨b,o+i*8+2+1,none⟩=some (.string s2)/\w'.cell? ⟨b,o+i*8+2+2,none⟩=some (.int .i64 n2)/\w'.cell? ⟨b,o+i*8+2+3,none⟩=some (.slice Aq ps2.length cq)/\w'.cell? ⟨b,o+i*8+2+4,none⟩=some (.slice Ag fs2.length cg)/\w'.cell? ⟨b,o+i*8+2+5,none⟩=some (.slice Ah vs2.length ch))) (by kernel_rfl) (HCC.out _ (Below.refl _ _).drew) (fun hHeld=>?_);refine Plan.start [0,1,2,3,4] ?_
    iterate 5 (refine Plan.tk (so rfl) hHeld ?_;try simp only[Act.put,Ax,Ay,Az])
    refine Plan.done ?_;refine wpAnyH_ready (rs:=[5]) (by kernel_rfl) (by simp) ?_;refine AllReadyH.cons (sd (some 15) rfl) (fun K hK=>?_) AllReadyH.nil;go_simp;refine (KN.out _).mono ?_;rintro e w2 ⟨rfl,hb2⟩;have HB2:=Hd ((Below.refl wr.heap.size wr).drew.trans hb2);clear hb2;go_wp2_with fail;refine hK.out _ _ (HCC.out _ HB2.out) (fun hHeld=>?_);clear hK K;try simp only[Act.put,Ax,Ay,Az]
    refine Plan.start [6,7] ?_
    iterate 2 (refine Plan.tk (so rfl) hHeld ?_;try simp only[Act.put,Ax,Ay,Az])
    refine Plan.done ?_;refine Plan.start [8,9,10,11,12,13] ?_
    iterate 6 (refine Plan.take (v:=undef) (so rfl) (by kernel_rfl) (by kernel_rfl) (by kernel_rfl) (fun _ _ _ h=>h) (Or.inr ⟨by rfl,rfl⟩) hHeld ?_;try simp only[Act.put,Ax,Ay,Az])
    refine Plan.done ?_;refine Plan.start [14,15] ?_
    iterate 2 (refine Plan.tk (so rfl) hHeld ?_;try simp only[Act.put,Ax,Ay,Az])
    refine Plan.done ?_;refine Plan.start [16,17,18,19,20,21] ?_
    iterate 6 (refine Plan.take (v:=undef) (so rfl) (by kernel_rfl) (by kernel_rfl) (by kernel_rfl) (fun _ _ _ h=>h) (Or.inr ⟨by rfl,rfl⟩) hHeld ?_;try simp only[Act.put,Ax,Ay,Az])
    refine Plan.done ?_;refine Plan.start [22,23] ?_
    iterate 2 (refine Plan.tk (so rfl) hHeld ?_;try simp only[Act.put,Ax,Ay,Az])
    refine Plan.done ?_;refine Plan.start [24,25,26,27,28,29,30] ?_
    iterate 7 (refine Plan.take (v:=undef) (so rfl) (by kernel_rfl) (by kernel_rfl) (by kernel_rfl) (fun _ _ _ h=>h) (Or.inr ⟨by rfl,rfl⟩) hHeld ?_;try simp only[Act.put,Ax,Ay,Az])
    refine Plan.done ?_;refine Plan.start [31,32] ?_
    iterate 2 (refine Plan.tk (so rfl) hHeld ?_;try simp only[Act.put,Ax,Ay,Az])
    refine Plan.done ?_;refine Plan.start [33,34,35,36,37,38,39,40,41,42,43,44,45,46,47,48] ?_
    iterate 16 (refine Plan.take (v:=undef) (so rfl) (by kernel_rfl) (by kernel_rfl) (by kernel_rfl) (fun _ _ _ h=>h) (Or.inr ⟨by rfl,rfl⟩) hHeld ?_;try simp only[Act.put,Ax,Ay,Az])
    refine Plan.done ?_;refine Plan.start [49] ?_;refine Plan.tk (so rfl) hHeld ?_;try simp only[Act.put,Ax,Ay,Az]
    refine Plan.done ?_;refine wpAnyH_done (by kernel_rfl) ?_ _;clear hHeld;go_wp2_with fail;go_ret
    exact⟨by rw[HF.out];rfl,HB.out.trans (HB2.out.mono HB.out.size)⟩
   | true=>
    rw[hn] at KN;by_cases hf0:fl<0
    ·have f0:decide (fl<0)=true:=decide_eq_true hf0;have HF:=Hd (HNO.out (by rw[HOK.out,hn,decide_eq_false (show ¬ 0<=fl by omega)];simp));clear hn hbr KForm HX HCell HOK;go_wp2_with fail;refine wp_region_held_drew (S:=(fun w'=>w'.cell? ⟨b,o+i*8,none⟩=some (.string nm)/\w'.cell? ⟨b,o+i*8+1,none⟩=some (.int .i64 fl)/\w'.cell? ⟨b,o+i*8+2,none⟩=some (.int .i64 k2)/\w'.cell? ⟨b,o+i*8+2+1,none⟩=some (.string s2)/\w'.cell? ⟨b,o+i*8+2+2,none⟩=some (.int .i64 n2)/\w'.cell? ⟨b,o+i*8+2+3,none⟩=some (.slice Aq ps2.length cq)/\w'.cell? ⟨b,o+i*8+2+4,none⟩=some (.slice Ag fs2.length cg)/\w'.cell? ⟨b,o+i*8+2+5,none⟩=some (.slice Ah vs2.length ch))) (by kernel_rfl) (HCC.out _ (Below.refl _ _).drew) (fun hHeld=>?_);refine Plan.start [0,1,2,3,4] ?_
     iterate 5 (refine Plan.tk (so rfl) hHeld ?_;try simp only[Act.put,Ax,Ay,Az])
     refine Plan.done ?_;refine wpAnyH_ready (rs:=[5]) (by kernel_rfl) (by simp) ?_;refine AllReadyH.cons (sd (some 15) rfl) (fun K hK=>?_) AllReadyH.nil;go_simp;refine (KN.out _).mono ?_;rintro e w2 ⟨rfl,hb2⟩;have HB2:=Hd ((Below.refl wr.heap.size wr).drew.trans hb2);clear hb2;go_wp2_with fail;refine hK.out _ _ (HCC.out _ HB2.out) (fun hHeld=>?_);clear hK K;try simp only[Act.put,Ax,Ay,Az]
     refine Plan.start [6,7,8,9,10,11,12,13,14,15] ?_
     iterate 10 (refine Plan.tk (so rfl) hHeld ?_;try simp only[Act.put,Ax,Ay,Az])
     refine Plan.done ?_;refine Plan.start [16,17,18,19,20,21] ?_
     iterate 6 (refine Plan.take (v:=undef) (so rfl) (by kernel_rfl) (by kernel_rfl) (by kernel_rfl) (fun _ _ _ h=>h) (Or.inr ⟨by rfl,rfl⟩) hHeld ?_;try simp only[Act.put,Ax,Ay,Az])
     refine Plan.done ?_;refine Plan.start [22,23] ?_
     iterate 2 (refine Plan.tk (so rfl) hHeld ?_;try simp only[Act.put,Ax,Ay,Az])
     refine Plan.done ?_;refine Plan.start [24,25,26,27,28,29,30] ?_
     iterate 7 (refine Plan.take (v:=undef) (so rfl) (by kernel_rfl) (by kernel_rfl) (by kernel_rfl) (fun _ _ _ h=>h) (Or.inr ⟨by rfl,rfl⟩) hHeld ?_;try simp only[Act.put,Ax,Ay,Az])
     refine Plan.done ?_;refine Plan.start [31,32] ?_
     iterate 2 (refine Plan.tk (so rfl) hHeld ?_;try simp only[Act.put,Ax,Ay,Az])
     refine Plan.done ?_;refine Plan.start [33,34,35,36,37,38,39,40,41,42,43,44,45,46,47,48] ?_
     iterate 16 (refine Plan.take (v:=undef) (so rfl) (by kernel_rfl) (by kernel_rfl) (by kernel_rfl) (fun _ _ _ h=>h) (Or.inr ⟨by rfl,rfl⟩) hHeld ?_;try simp only[Act.put,Ax,Ay,Az])
     refine Plan.done ?_;refine Plan.start [49] ?_;refine Plan.tk (so rfl) hHeld ?_;try simp only[Act.put,Ax,Ay,Az]
     refine Plan.done ?_;refine wpAnyH_done (by kernel_rfl) ?_ _;clear hHeld;go_wp2_with fail;go_ret
     exact⟨by rw[HF.out];rfl,HB.out.trans (HB2.out.mono HB.out.size)⟩
    ·have f0:decide (fl<0)=false:=decide_eq_false hf0;by_cases hf3:3<fl
     ·have f3:decide ((3:Int)<fl)=true:=decide_eq_true hf3;have HF:=Hd (HNO.out (by rw[HOK.out,hn,decide_eq_false (show ¬ fl<=3 by omega)];simp));clear hn hbr KForm HX HCell HOK;go_wp2_with fail;refine wp_region_held_drew (S:=(fun w'=>w'.cell? ⟨b,o+i*8,none⟩=some (.string nm)/\w'.cell? ⟨b,o+i*8+1,none⟩=some (.int .i64 fl)/\w'.cell? ⟨b,o+i*8+2,none⟩=some (.int .i64 k2)/\w'.cell? ⟨b,o+i*8+2+1,none⟩=some (.string s2)/\w'.cell? ⟨b,o+i*8+2+2,none⟩=some (.int .i64 n2)/\w'.cell? ⟨b,o+i*8+2+3,none⟩=some (.slice Aq ps2.length cq)/\w'.cell? ⟨b,o+i*8+2+4,none⟩=some (.slice Ag fs2.length cg)/\w'.cell? ⟨b,o+i*8+2+5,none⟩=some (.slice Ah vs2.length ch))) (by kernel_rfl) (HCC.out _ (Below.refl _ _).drew) (fun hHeld=>?_);refine Plan.start [0,1,2,3,4] ?_
      iterate 5 (refine Plan.tk (so rfl) hHeld ?_;try simp only[Act.put,Ax,Ay,Az])
      refine Plan.done ?_;refine wpAnyH_ready (rs:=[5]) (by kernel_rfl) (by simp) ?_;refine AllReadyH.cons (sd (some 15) rfl) (fun K hK=>?_) AllReadyH.nil;go_simp;refine (KN.out _).mono ?_;rintro e w2 ⟨rfl,hb2⟩;have HB2:=Hd ((Below.refl wr.heap.size wr).drew.trans hb2);clear hb2;go_wp2_with fail;refine hK.out _ _ (HCC.out _ HB2.out) (fun hHeld=>?_);clear hK K;try simp only[Act.put,Ax,Ay,Az]
      refine Plan.start [6,7,8,9,10,11,12,13,14,15,16,17,18,19,20,21,22,23] ?_
      iterate 18 (refine Plan.tk (so rfl) hHeld ?_;try simp only[Act.put,Ax,Ay,Az])
      refine Plan.done ?_;refine Plan.start [24,25,26,27,28,29,30] ?_
      iterate 7 (refine Plan.take (v:=undef) (so rfl) (by kernel_rfl) (by kernel_rfl) (by kernel_rfl) (fun _ _ _ h=>h) (Or.inr ⟨by rfl,rfl⟩) hHeld ?_;try simp only[Act.put,Ax,Ay,Az])
      refine Plan.done ?_;refine Plan.start [31,32] ?_
      iterate 2 (refine Plan.tk (so rfl) hHeld ?_;try simp only[Act.put,Ax,Ay,Az])
      refine Plan.done ?_;refine Plan.start [33,34,35,36,37,38,39,40,41,42,43,44,45,46,47,48] ?_
      iterate 16 (refine Plan.take (v:=undef) (so rfl) (by kernel_rfl) (by kernel_rfl) (by kernel_rfl) (fun _ _ _ h=>h) (Or.inr ⟨by rfl,rfl⟩) hHeld ?_;try simp only[Act.put,Ax,Ay,Az])
      refine Plan.done ?_;refine Plan.start [49] ?_;refine Plan.tk (so rfl) hHeld ?_;try simp only[Act.put,Ax,Ay,Az]
      refine Plan.done ?_;refine wpAnyH_done (by kernel_rfl) ?_ _;clear hHeld;go_wp2_with fail;go_ret
      exact⟨by rw[HF.out];rfl,HB.out.trans (HB2.out.mono HB.out.size)⟩
     ·have f3:decide ((3:Int)<fl)=false:=decide_eq_false hf3;have HFl:Hid (Bo nm=true/\decide (0<=fl)=true/\decide (fl<=3)=true):=Hd ⟨hn,decide_eq_true (by omega),decide_eq_true (by omega)⟩;clear hf0 hf3 hn
      cases qf with
      | false=>
       have HF:=Hd (HNO.out (by rw[HOK.out];simp));clear hbr HX HCell HOK;go_wp2_with fail;refine wp_region_held_drew (S:=(fun w'=>w'.cell? ⟨b,o+i*8,none⟩=some (.string nm)/\w'.cell? ⟨b,o+i*8+1,none⟩=some (.int .i64 fl)/\w'.cell? ⟨b,o+i*8+2,none⟩=some (.int .i64 k2)/\w'.cell? ⟨b,o+i*8+2+1,none⟩=some (.string s2)/\w'.cell? ⟨b,o+i*8+2+2,none⟩=some (.int .i64 n2)/\w'.cell? ⟨b,o+i*8+2+3,none⟩=some (.slice Aq ps2.length cq)/\w'.cell? ⟨b,o+i*8+2+4,none⟩=some (.slice Ag fs2.length cg)/\w'.cell? ⟨b,o+i*8+2+5,none⟩=some (.slice Ah vs2.length ch))) (by kernel_rfl) (HCC.out _ (Below.refl _ _).drew) (fun hHeld=>?_);refine Plan.start [0,1,2,3,4] ?_
       iterate 5 (refine Plan.tk (so rfl) hHeld ?_;try simp only[Act.put,Ax,Ay,Az])
       refine Plan.done ?_;refine wpAnyH_ready (rs:=[5]) (by kernel_rfl) (by simp) ?_;refine AllReadyH.cons (sd (some 15) rfl) (fun K hK=>?_) AllReadyH.nil;go_simp;refine (KN.out _).mono ?_;rintro e w2 ⟨rfl,hb2⟩;have HB2:=Hd ((Below.refl wr.heap.size wr).drew.trans hb2);clear hb2;go_wp2_with fail;refine hK.out _ _ (HCC.out _ HB2.out) (fun hHeld=>?_);clear hK K;try simp only[Act.put,Ax,Ay,Az]
       refine Plan.start [6,7,8,9,10,11,12,13,14,15,16,17,18,19,20,21,22,23,24,25,26,27,28] ?_
       iterate 23 (refine Plan.tk (so rfl) hHeld ?_;try simp only[Act.put,Ax,Ay,Az])
       refine Plan.done ?_;refine wpAnyH_ready (rs:=[29]) (by kernel_rfl) (by simp) ?_;refine AllReadyH.cons (sd (some 39) rfl) (fun K hK=>?_) AllReadyH.nil;go_simp;refine (KForm.out _ (HB.out.trans (HB2.out.mono HB.out.size))).mono ?_;rintro e w3 ⟨rfl,hb3⟩;have HB3:=Hd (HB2.out.trans (hb3.mono HB2.out.size));clear hb3;go_wp2_with fail;refine hK.out _ _ (HCC.out _ HB3.out) (fun hHeld=>?_);clear hK K;try simp only[Act.put,Ax,Ay,Az]
       refine Plan.start [30,31,32] ?_
       iterate 3 (refine Plan.tk (so rfl) hHeld ?_;try simp only[Act.put,Ax,Ay,Az])
       refine Plan.done ?_;refine Plan.start [33,34,35,36,37,38,39,40,41,42,43,44,45,46,47,48] ?_
       iterate 16 (refine Plan.take (v:=undef) (so rfl) (by kernel_rfl) (by kernel_rfl) (by kernel_rfl) (fun _ _ _ h=>h) (Or.inr ⟨by rfl,rfl⟩) hHeld ?_;try simp only[Act.put,Ax,Ay,Az])
       refine Plan.done ?_;refine Plan.start [49] ?_;refine Plan.tk (so rfl) hHeld ?_;try simp only[Act.put,Ax,Ay,Az]
       refine Plan.done ?_;refine wpAnyH_done (by kernel_rfl) ?_ _;clear hHeld;go_wp2_with fail;go_ret
       exact⟨by rw[HF.out];rfl,HB.out.trans (HB3.out.mono HB.out.size)⟩
      | true=>
       rcases Nat.eq_zero_or_pos i with h0 | hpos
       ·subst h0;have HOK2:Hid (∀ j,j<0+1->Rs (Bf l Ab) j=true):=Hd fun j hj=>by
         have:j=0:=by omega
         subst this;rw[HOK.out,HFl.out.1,HFl.out.2.1,HFl.out.2.2];rfl
        simp only[Nat.zero_mul,Nat.add_zero] at HCC KForm;clear hbr HX HCell HOK;go_wp2_with fail;refine wp_region_held_drew (S:=(fun w'=>w'.cell? ⟨b,o,none⟩=some (.string nm)/\w'.cell? ⟨b,o+1,none⟩=some (.int .i64 fl)/\w'.cell? ⟨b,o+2,none⟩=some (.int .i64 k2)/\w'.cell? ⟨b,o+2+1,none⟩=some (.string s2)/\w'.cell? ⟨b,o+2+2,none⟩=some (.int .i64 n2)/\w'.cell? ⟨b,o+2+3,none⟩=some (.slice Aq ps2.length cq)/\w'.cell? ⟨b,o+2+4,none⟩=some (.slice Ag fs2.length cg)/\w'.cell? ⟨b,o+2+5,none⟩=some (.slice Ah vs2.length ch))) (by kernel_rfl) (HCC.out _ (Below.refl _ _).drew) (fun hHeld=>?_);refine Plan.start [0,1,2,3,4] ?_
        iterate 5 (refine Plan.tk (so rfl) hHeld ?_;try simp only[Act.put,Ax,Ay,Az])
        refine Plan.done ?_;refine wpAnyH_ready (rs:=[5]) (by kernel_rfl) (by simp) ?_;refine AllReadyH.cons (sd (some 15) rfl) (fun K hK=>?_) AllReadyH.nil;go_simp;refine (KN.out _).mono ?_;rintro e w2 ⟨rfl,hb2⟩;have HB2:=Hd ((Below.refl wr.heap.size wr).drew.trans hb2);clear hb2;go_wp2_with fail;refine hK.out _ _ (HCC.out _ HB2.out) (fun hHeld=>?_);clear hK K;try simp only[Act.put,Ax,Ay,Az]
        refine Plan.start [6,7,8,9,10,11,12,13,14,15,16,17,18,19,20,21,22,23,24,25,26,27,28] ?_
        iterate 23 (refine Plan.tk (so rfl) hHeld ?_;try simp only[Act.put,Ax,Ay,Az])
        refine Plan.done ?_;refine wpAnyH_ready (rs:=[29]) (by kernel_rfl) (by simp) ?_;refine AllReadyH.cons (sd (some 39) rfl) (fun K hK=>?_) AllReadyH.nil;go_simp;refine (KForm.out _ (HB.out.trans (HB2.out.mono HB.out.size))).mono ?_;rintro e w3 ⟨rfl,hb3⟩;have HB3:=Hd (HB2.out.trans (hb3.mono HB2.out.size));clear hb3;go_wp2_with fail;refine hK.out _ _ (HCC.out _ HB3.out) (fun hHeld=>?_);clear hK K;try simp only[Act.put,Ax,Ay,Az]
        refine Plan.start [30,31,32,33,34,35] ?_
        iterate 6 (refine Plan.tk (so rfl) hHeld ?_;try simp only[Act.put,Ax,Ay,Az])
        refine Plan.done ?_;refine Plan.start [36,37,38,39,40,41,42,43,44,45,46,47] ?_
        iterate 12 (refine Plan.take (v:=undef) (so rfl) (by kernel_rfl) (by kernel_rfl) (by kernel_rfl) (fun _ _ _ h=>h) (Or.inr ⟨by rfl,rfl⟩) hHeld ?_;try simp only[Act.put,Ax,Ay,Az])
        refine Plan.done ?_;refine Plan.start [48,49] ?_
        iterate 2 (refine Plan.tk (so rfl) hHeld ?_;try simp only[Act.put,Ax,Ay,Az])
        refine Plan.done ?_;refine wpAnyH_done (by kernel_rfl) ?_ _;clear hHeld;go_wp2_with fail;refine⟨⟨0+1,HIn.out,by first | rfl | rw[wr2],HOK2.out,HB.out.trans (HB3.out.mono HB.out.size)⟩,?_⟩;first | exact HM.out | (rw[wr2];exact HM.out)
       ·obtain⟨m,hm⟩:∃ m,i=m+1:=⟨i - 1,by omega⟩;obtain⟨q,hq,hcq0⟩:=HCell.out m (by omega);have hcq:=Aa hbr hcq0;have HCD:Hid (∀ wx,Below wr.heap.size wr wx->wx.cell? ⟨b,o+m*8,none⟩=some (.string q)):=Hd fun wx hx=>Aa hx hcq;have wr1:wrap64 ((i:Int) - 1)=((m:Nat):Int):=(by rw[Cf (by omega) (by omega)];omega);have wr1':IntKind.i64.wrap ((i:Int) - 1)=((m:Nat):Int):=by
         have e:IntKind.i64.wrap ((i:Int) - 1)=wrap64 ((i:Int) - 1):=(by unfold wrap64;exact IntKind.wrap_i64 _);rw[e,wr1]
        have wr3:wrap64 (m:Int)=(m:Int):=Cf (by omega) (by omega);have wr3':IntKind.i64.wrap (m:Int)=(m:Int):=by
         have e:IntKind.i64.wrap (m:Int)=wrap64 (m:Int):=(by unfold wrap64;exact IntKind.wrap_i64 _);rw[e,wr3]
        have i2:(0:Int)<=(m:Int):=(by omega);have i3:(m:Int)<(l.length:Int):=(by omega);have i5:m<l.length:=(by omega);have i4:(0:Int)<(i:Int):=(by omega);have i6:decide ((0:Int)<(i:Int))=true:=decide_eq_true i4;have i7:decide (0<i)=true:=decide_eq_true hpos;have HLess:Hid (Mo l i nm=Go.Op.bytesLess q.toList nm.toList):=Hd (by
         subst hm;simp only[Mo,List.getElem?_eq_getElem (show m<l.length by omega)];rw[hq])
        cases hbl:Go.Op.bytesLess q.toList nm.toList with
        | true=>
         have HOK2:Hid (∀ j,j<i+1->Rs (Bf l Ab) j=true):=Hd fun j hj=>by
          rcases Nat.lt_or_ge j i with h1 | h1
          ·exact HE.out j h1
          ·have:j=i:=by omega
           subst this;rw[HOK.out,HFl.out.1,HFl.out.2.1,HFl.out.2.2,HLess.out,hbl];rfl
         clear hbr HX HCell HOK hq hcq0 hcq hm;go_wp2_with fail;refine wp_region_held_drew (S:=(fun w'=>(w'.cell? ⟨b,o+i*8,none⟩=some (.string nm)/\w'.cell? ⟨b,o+i*8+1,none⟩=some (.int .i64 fl)/\w'.cell? ⟨b,o+i*8+2,none⟩=some (.int .i64 k2)/\w'.cell? ⟨b,o+i*8+2+1,none⟩=some (.string s2)/\w'.cell? ⟨b,o+i*8+2+2,none⟩=some (.int .i64 n2)/\w'.cell? ⟨b,o+i*8+2+3,none⟩=some (.slice Aq ps2.length cq)/\w'.cell? ⟨b,o+i*8+2+4,none⟩=some (.slice Ag fs2.length cg)/\w'.cell? ⟨b,o+i*8+2+5,none⟩=some (.slice Ah vs2.length ch))/\w'.cell? ⟨b,o+m*8,none⟩=some (.string q))) (by kernel_rfl) (⟨HCC.out _ (Below.refl _ _).drew,HCD.out _ (Below.refl _ _).drew⟩) (fun hHeld=>?_);refine Plan.start [0,1,2,3,4] ?_
         iterate 5 (refine Plan.tk (so rfl) hHeld ?_;try simp only[Act.put,Ax,Ay,Az])
         refine Plan.done ?_;refine wpAnyH_ready (rs:=[5]) (by kernel_rfl) (by simp) ?_;refine AllReadyH.cons (sd (some 15) rfl) (fun K hK=>?_) AllReadyH.nil;go_simp;refine (KN.out _).mono ?_;rintro e w2 ⟨rfl,hb2⟩;have HB2:=Hd ((Below.refl wr.heap.size wr).drew.trans hb2);clear hb2;go_wp2_with fail;refine hK.out _ _ (⟨HCC.out _ HB2.out,HCD.out _ HB2.out⟩) (fun hHeld=>?_);clear hK K;try simp only[Act.put,Ax,Ay,Az]
         refine Plan.start [6,7,8,9,10,11,12,13,14,15,16,17,18,19,20,21,22,23,24,25,26,27,28] ?_
         iterate 23 (refine Plan.tk (so rfl) hHeld ?_;try simp only[Act.put,Ax,Ay,Az])
         refine Plan.done ?_;refine wpAnyH_ready (rs:=[29]) (by kernel_rfl) (by simp) ?_;refine AllReadyH.cons (sd (some 39) rfl) (fun K hK=>?_) AllReadyH.nil;go_simp;refine (KForm.out _ (HB.out.trans (HB2.out.mono HB.out.size))).mono ?_;rintro e w3 ⟨rfl,hb3⟩;have HB3:=Hd (HB2.out.trans (hb3.mono HB2.out.size));clear hb3;go_wp2_with fail;refine hK.out _ _ (⟨HCC.out _ HB3.out,HCD.out _ HB3.out⟩) (fun hHeld=>?_);clear hK K;try simp only[Act.put,Ax,Ay,Az]
         refine Plan.start [30,31,32,33,34,35,36,37,38,39,40,41,42,43,44,45,46,47,48,49] ?_
         iterate 20 (refine Plan.tk (so rfl) hHeld ?_;try simp only[Act.put,Ax,Ay,Az])
         refine Plan.done ?_;refine wpAnyH_done (by kernel_rfl) ?_ _;clear hHeld;go_wp2_with fail;refine⟨⟨i+1,HIn.out,by first | rfl | rw[wr2],HOK2.out,HB.out.trans (HB3.out.mono HB.out.size)⟩,?_⟩;first | exact HM.out | (rw[wr2];exact HM.out)
        | false=>
         have HF:=Hd (HNO.out (by rw[HOK.out,HLess.out,hbl];simp));clear hbr HX HCell HOK hq hcq0 hcq hm;go_wp2_with fail;refine wp_region_held_drew (S:=(fun w'=>(w'.cell? ⟨b,o+i*8,none⟩=some (.string nm)/\w'.cell? ⟨b,o+i*8+1,none⟩=some (.int .i64 fl)/\w'.cell? ⟨b,o+i*8+2,none⟩=some (.int .i64 k2)/\w'.cell? ⟨b,o+i*8+2+1,none⟩=some (.string s2)/\w'.cell? ⟨b,o+i*8+2+2,none⟩=some (.int .i64 n2)/\w'.cell? ⟨b,o+i*8+2+3,none⟩=some (.slice Aq ps2.length cq)/\w'.cell? ⟨b,o+i*8+2+4,none⟩=some (.slice Ag fs2.length cg)/\w'.cell? ⟨b,o+i*8+2+5,none⟩=some (.slice Ah vs2.length ch))/\w'.cell? ⟨b,o+m*8,none⟩=some (.string q))) (by kernel_rfl) (⟨HCC.out _ (Below.refl _ _).drew,HCD.out _ (Below.refl _ _).drew⟩) (fun hHeld=>?_);refine Plan.start [0,1,2,3,4] ?_
         iterate 5 (refine Plan.tk (so rfl) hHeld ?_;try simp only[Act.put,Ax,Ay,Az])
         refine Plan.done ?_;refine wpAnyH_ready (rs:=[5]) (by kernel_rfl) (by simp) ?_;refine AllReadyH.cons (sd (some 15) rfl) (fun K hK=>?_) AllReadyH.nil;go_simp;refine (KN.out _).mono ?_;rintro e w2 ⟨rfl,hb2⟩;have HB2:=Hd ((Below.refl wr.heap.size wr).drew.trans hb2);clear hb2;go_wp2_with fail;refine hK.out _ _ (⟨HCC.out _ HB2.out,HCD.out _ HB2.out⟩) (fun hHeld=>?_);clear hK K;try simp only[Act.put,Ax,Ay,Az]
         refine Plan.start [6,7,8,9,10,11,12,13,14,15,16,17,18,19,20,21,22,23,24,25,26,27,28] ?_
         iterate 23 (refine Plan.tk (so rfl) hHeld ?_;try simp only[Act.put,Ax,Ay,Az])
         refine Plan.done ?_;refine wpAnyH_ready (rs:=[29]) (by kernel_rfl) (by simp) ?_;refine AllReadyH.cons (sd (some 39) rfl) (fun K hK=>?_) AllReadyH.nil;go_simp;refine (KForm.out _ (HB.out.trans (HB2.out.mono HB.out.size))).mono ?_;rintro e w3 ⟨rfl,hb3⟩;have HB3:=Hd (HB2.out.trans (hb3.mono HB2.out.size));clear hb3;go_wp2_with fail;refine hK.out _ _ (⟨HCC.out _ HB3.out,HCD.out _ HB3.out⟩) (fun hHeld=>?_);clear hK K;try simp only[Act.put,Ax,Ay,Az]
         refine Plan.start [30,31,32,33,34,35,36,37,38,39,40,41,42,43,44,45,46,47,48,49] ?_
         iterate 20 (refine Plan.tk (so rfl) hHeld ?_;try simp only[Act.put,Ax,Ay,Az])
         refine Plan.done ?_;refine wpAnyH_done (by kernel_rfl) ?_ _;clear hHeld;go_wp2_with fail;go_ret
         exact⟨by rw[HF.out];rfl,HB.out.trans (HB3.out.mono HB.out.size)⟩
  ·have t1:decide ((i:Int)<(l.length:Int))=false:=by simp;omega
   have HT1:Hid (Ca (Bf l Ab)=true):=Hd (by unfold Ca;rw[Eb];exact fun j hj=>HE.out j (by rw[D2] at hj;omega));clear hi;go_wp2_with fail;go_ret
   exact⟨by rw[HT1.out];rfl,HB.out⟩
theorem Jv:Bk.toList=[]:=by rw[ByteArray.toList_eq];rfl
theorem Og {k:Int} (h:k≠22):C6 (E7 k)=false:=by
 unfold E7;rw[F0];have e:(k == 22)=false:=by simpa using h
 rw[e];rfl
theorem K6 {t:Ty} (h:Ab t=true):Jq t:=⟨fun e=>by rw[Gq h e (by decide) (by decide)];exact Og (by decide),Oa h⟩
theorem Rv {l:List Ty} (h:∀ x∈l,Ab x=true):∀ x∈Bb l,Jq x:=fun x hx=>K6 (Iv (List.all_eq_true.2 h) x hx)
theorem Mf {k:Int} (h1:1<=k) (h8:k<=8):Ab (E7 k)=true:=by
 unfold E7;rw[Am];have hs:Ae k=⟨false,false,false,false,0,0,true⟩:=by unfold Ae;rw[if_pos ⟨h1,h8⟩]
 rw[hs];unfold Bh;rw[if_neg (by omega),if_neg (by omega),if_neg (by omega),if_neg (by omega),if_neg (by omega),if_neg (by omega),if_neg (by omega),if_neg (by omega)];unfold Aj;simp[Jv]
theorem Ci {t:Ty} (h:Ab t=true):∀ p∈t.ps,Ab p=true:=by
 obtain⟨k,s,n,ps,fs,vs⟩:=t;rw[Am,Bool.and_eq_true,List.all_eq_true] at h;exact h.2
theorem Ob {k:Int} {t:ByteArray} {n:Int} {ps:List Ty} {fs:Bp} {vs:Bm} (h:Ab (.mk k t n ps fs vs)=true):Bh k t n ps (Ca (Bf fs Ab)) (Dy (C3 vs Ab))=true:=by
 rw[Am,Bool.and_eq_true,Bool.and_eq_true] at h;exact h.1.2
theorem Pf {t:ByteArray} {n:Int} {ps:List Ty} {fs:Bp} {vs:Bm} (h:Ab (.mk 15 t n ps fs vs)=true):2<=ps.length/\t=Bk/\n=0/\fs=[]/\vs=[]/\Hi ps=true:=by
 have hf:=Db h;have hs:Ae 15=⟨false,false,false,false,2,-1,true⟩:=rfl;rw[hs] at hf;unfold Aj at hf;simp only[Bool.and_eq_true,Bool.not_eq_true',Bool.or_eq_false_iff,Bool.or_eq_true,decide_eq_true_eq,beq_iff_eq,Bool.not_false,Bool.true_and,decide_eq_false_iff_not] at hf;obtain⟨⟨⟨⟨h1,h2⟩,h3⟩,h4⟩,h5,h6⟩:=hf;refine⟨by omega,Es ?_,by simpa using h2,List.eq_nil_of_length_eq_zero (by omega),List.eq_nil_of_length_eq_zero (by omega),?_⟩
 ·have:t.toList=[]:=by simpa using h1
  rw[ByteArray.toList_eq] at this;rw[this];rfl
 ·have:=Ob h;unfold Bh at this;simpa using this
theorem Dd {t:Ty} (h:Ab t=true) (hk:t.k=15):Bi t.ps=t:=by
 obtain⟨k,s,n,ps,fs,vs⟩:=t;have hk':k=15:=hk;subst hk';obtain⟨h2,rfl,rfl,rfl,rfl,hu⟩:=Pf h;exact (J3 h2).1 hu
theorem Tq {t:Ty} (h:Ab t=true):Bi [t]=t:=by
 by_cases hk:t.k=15
 ·refine Eq.trans (Lb fun x=>?_) (Dd h hk);rw[Dw];simp only[List.mem_singleton,exists_eq_left];rw[Os hk]
 ·have hf:Bb [t]=[t]:=D7 fun x hx=>by rw[List.mem_singleton] at hx;subst hx;exact hk
  have one:∀ {k:Int},Ce k [t]=decide (t.k=k):=fun {k}=>by
   rw[Bool.eq_iff_iff,Gt,decide_eq_true_eq];simp
  by_cases h1:t.k=1
  ·have e:Cd [t]=[]:=by unfold Cd;rw[hf,List.filter_eq_nil_iff];intro x hx;rw[List.mem_singleton] at hx;subst hx;rw[Ll _ h1];decide
   unfold Bi;rw[e,Gq h h1 (by decide) (by decide)];rfl
  ·have e:Cd [t]=[t]:=by
    unfold Cd;rw[hf,List.filter_eq_self];intro x hx;rw[List.mem_singleton] at hx;subst hx;by_cases h3:x.k=3
    ·exact Ji _ h3
    by_cases h2:x.k=2
    ·rw[Jh _ h2 ((K6 h).1 h2),Ld,one,decide_eq_false h3];rfl
    rw[En _ h3 h1 h2 (by rw[Ld,one,decide_eq_false h3]) (by rw[To,one,decide_eq_false h2])];by_cases h9:x.k=9
    ·rw[if_pos h9,Jc4,one,decide_eq_false (by omega)];rfl
    ·rw[if_neg h9];by_cases h10:x.k=10
     ·rw[if_pos h10,Jde,one,decide_eq_false (by omega)];rfl
     ·rw[if_neg h10]
   unfold Bi;rw[e];rfl
theorem Mg {l:List Ty} (h:∀ x∈l,Ab x=true):Ab (Bi l)=true:=by
 have hp:=Fo l;have hu:=R4 l (Rv h);have hm:∀ x∈C0 (Cd l),Ab x=true:=fun x hx=>Iv (List.all_eq_true.2 h) x (By.1 ((Cj x _).1 hx)).1;rw[hp] at hu;unfold Bi at hp hu ⊢;generalize C0 (Cd l)=s at hp hu hm;rcases s with _ | ⟨x,_ | ⟨y,s⟩⟩
 ·exact Mf (by decide) (by decide)
 ·exact hm x (by simp)
 ·show Ab (.mk 15 Bk 0 (x :: y :: s) [] [])=true;rw[Am];have hs:Ae 15=⟨false,false,false,false,2,-1,true⟩:=rfl;rw[hs];have hb:Hi (x :: y :: s)=true:=(J3 (by simp)).2 hu;have hself:Bh 15 Bk 0 (x :: y :: s) (Ca (Bf [] Ab)) (Dy (C3 [] Ab))=true:=by unfold Bh;simpa using hb
  rw[hself,Bool.and_true,Bool.and_eq_true,List.all_eq_true];refine⟨?_,hm⟩;unfold Aj;simp[Jv];omega
theorem Qo {t:Ty} (h:Ab t=true) (hk:t.k=14):Ca (Bf t.fs Ab)=true:=by
 obtain⟨k,s,n,ps,fs,vs⟩:=t;have hk':k=14:=hk;subst hk';have:=Ob h;unfold Bh at this;have h2:Ca (Bf fs Ab)=true:=by simpa using this
 exact h2
theorem Sj {fs:Bp} (h:Ca (Bf fs Ab)=true) {i:Nat} (hi:i<fs.length):Bo fs[i].1=true/\0<=fs[i].2.1/\fs[i].2.1<=3/\Ab fs[i].2.2=true:=by
 unfold Ca at h;rw[Eb] at h;have:=h i (by rw[D2];exact hi);rcases i with _ | i
 ·rw[Mz hi] at this;simp only[Bool.and_eq_true,decide_eq_true_eq] at this;exact⟨this.1.1.1,this.1.1.2,this.1.2,this.2⟩
 ·rw[My hi] at this;simp only[Bool.and_eq_true,decide_eq_true_eq] at this;exact⟨this.1.1.1.1,this.1.1.1.2,this.1.1.2,this.1.2⟩
theorem Qm {fs:Bp} (h:Ca (Bf fs Ab)=true) {f:ByteArray×Int×Ty} (hf:f∈fs):Bo f.1=true/\0<=f.2.1/\f.2.1<=3/\Ab f.2.2=true:=by
 obtain⟨i,hi,rfl⟩:=List.getElem_of_mem hf;exact Sj h hi
theorem Hu (l m:List Ty):An (l++m)=An l+An m:=by simp[An]
theorem Gp:An []=0:=rfl
theorem Kn (q:Ty->Bool):∀ l:List Ty,An (l.filter q)<=An l
 | []=>Nat.le_refl _
 | a :: l=>by
  have:=Kn q l;rw[List.filter_cons]
  split
  ·rw[B6,B6];omega
  ·rw[B6];omega
theorem Qe (t:Ty):∀ l,An (Fc t l)<=Ai t+An l
 | []=>by simp[Fc,An]
 | x :: l=>by
  have:=Qe t l;unfold Fc
  repeat' split
  all_goals simp only[B6] at *
  all_goals omega
theorem Nz:∀ l,An (C0 l)<=An l
 | []=>Nat.le_refl _
 | a :: l=>by
  have h1:=Nz l;have h2:=Qe a (C0 l);have e:C0 (a :: l)=Fc a (C0 l):=rfl;rw[e,B6];omega
theorem G8:∀ (l:List Ty),(∀ p∈l,An (Cq p)<=Ai p)->An (Bb l)<=An l
 | [],_=>Nat.le_refl _
 | a :: l,h=>by
  have h1:=h a List.mem_cons_self;have h2:=G8 l fun q hq=>h q (List.mem_cons_of_mem _ hq);rw[He,Hu,B6];omega
theorem Qf (t:Ty):An (Cq t)<=Ai t:=by
 refine Ty.ind (C:=fun t=>An (Cq t)<=Ai t) (fun k t n ps fs vs hp _ _=>?_) t;rw[Ck]
 split
 ·have:=G8 ps hp;rw[Br];omega
 ·rw[B6,Gp];omega
theorem Vi (l:List Ty):An (Bb l)<=An l:=G8 l fun p _=>Qf p
theorem Qi (k:Int):Ai (E7 k)=1:=by unfold E7;rw[Br];rfl
theorem Vo (l:List Ty):Ai (Bi l)<=An l+1:=by
 have h1:=Nz (Cd l);have h2:=Kn (Cx (Bs (Bb l))) (Bb l);have h3:=Vi l;have h4:An (Cd l)=An ((Bb l).filter (Cx (Bs (Bb l)))):=rfl;unfold Bi;generalize C0 (Cd l)=s at h1;rcases s with _ | ⟨x,_ | ⟨y,s⟩⟩
 ·show Ai (E7 1)<=_;rw[Qi];omega
 ·show Ai x<=_;rw[B6,Gp] at h1;omega
 ·show Ai (.mk 15 Bk 0 (x :: y :: s) [] [])<=_;rw[Br];have e1:Bd []=0:=rfl;have e2:Be []=0:=rfl;omega
theorem Js:∀ {l:Bp} {v:ByteArray×Int×Ty},v∈l->Ai v.2.2<=Bd l
 | a :: l,v,h=>by
  have e:Bd (a :: l)=Ai a.2.2+Bd l:=by simp[Bd]
  rw[e];rcases List.mem_cons.1 h with rfl | h
  ·omega
  ·have:=Js h;omega
end Go.Proofs.YtlpfpehegddcfaaGreatDoor
