import Derived.Test.YtlpfpehegddcfaaGreatDoorMn23
namespace Go.Proofs.YtlpfpehegddcfaaGreatDoor
set_option maxRecDepth 100000
set_option maxHeartbeats 64000000
open Go.RowKit
theorem cntF_mem:∀ {l:FsT} {v:ByteArray×Int×Ty},v∈l→cntT v.2.2≤cntF l
 | a :: l,v,h=>by
  have e:cntF (a :: l)=cntT a.2.2+cntF l:=by simp[cntF]
  rw[e]
  rcases List.mem_cons.1 h with rfl | h
  ·omega
  ·have:=cntF_mem h;omega
def lastOk (l:FsT) (i:Nat) (nm:ByteArray):Bool:=match i with | 0=>true | j+1=>match l[j]? with | none=>true | some p=>Go.Op.bytesLess p.1.toList nm.toList
theorem object_ref (l:FsT) (h:∀ f∈l,FormR f.2.2) {K:Nat→Prop} {w:World} {A:Option Addr} {c:Nat} (hL:ListF K w l A c) (hc:cntF l≤1000000) :
  Calls Tryz.prog 72 #[.slice A l.length c] w fun e w'=>e=.returned (.bool (fieldsB (fieldsT l formT)))∧Below w.heap.size w w':=by
 have HL:=Hd hL
 have HH:=Hd h
 have HC:=Hd hc
 have hll:=hL.shortF
 clear hL h hc
 go_enter Tryz.func72,Tryz.ntmps72
 go_wp2_with fail
 go_loopw [3] (fun v wr=>∃ (i:Nat),i≤l.length∧v=.int .i64 i∧(∀ j,j<i→okF (fieldsT l formT) j=true)∧Below w.heap.size w wr) (fun v _=>l.length - (intOf v).toNat)
 case atStart=>exact⟨0,by omega,rfl,fun j hj=>absurd hj (by omega),Below.refl _ _⟩
 case round=>
  obtain⟨i,hi,rfl,he,hb⟩:=hrel
  have HE:=Hd he
  have HB:=Hd hb
  clear he hb
  by_cases hin:i<l.length
  ·have t1:decide ((i:Int)<(l.length:Int))=true:=by simp;omega
   have wr2:wrap64 ((i:Int)+1)=((i+1:Nat):Int):=wrap_one (by omega)
   have HM:=Hd (measI hin)
   obtain⟨b,o,hA,_,hat⟩:=HL.out.at (by omega)
   obtain⟨hc0,hc1,hsz,cs,hcs,hrep⟩:=hat i hin
   have HNO:Hid (okF (fieldsT l formT) i=false→fieldsB (fieldsT l formT)=false):=Hd fun e=>by unfold fieldsB;exact allB_no (by rw[fieldsT_len];exact hin) e
   have HCell:Hid (∀ k (h:k<l.length),∃ q,q=l[k].1∧w.cell? ⟨b,o+k*8,none⟩=some (.string q)):=Hd fun k h=>⟨_,rfl,(hat k h).1⟩
   have HOK:Hid (okF (fieldsT l formT) i=(nameT l[i].1 && decide (0≤l[i].2.1) && decide (l[i].2.1≤3) && formT l[i].2.2 && lastOk l i l[i].1)):=Hd (by
    clear hc0 hc1 hsz hcs hrep HNO HCell
    rcases i with _ | j
    ·rw[okF_zero hin];simp[lastOk]
    ·rw[okF_succ hin];simp only[lastOk,List.getElem?_eq_getElem (show j<l.length by omega)])
   have KForm:=Hd fun wx (hx:Below w.heap.size w wx)=>HH.out _ (List.getElem_mem hin) K wx cs (hrep.later hx) (Nat.le_trans (cntF_mem (List.getElem_mem hin)) HC.out)
   subst hA
   generalize l[i].1=nm at hc0 hsz HOK
   generalize l[i].2.1=fl at hc1 HOK
   generalize l[i].2.2=t at hrep HOK KForm
   obtain⟨k2,s2,n2,ps2,fs2,vs2⟩:=t
   obtain⟨Aq,cq,Ag,cg,Ah,ch,rfl,-⟩:=hrep.inv
   simp only[cells6T] at KForm
   have HX:Hid (∀ wx,Below w.heap.size w wx→wx.cell? ⟨b,o+i*8,none⟩=some (.string nm)∧wx.cell? ⟨b,o+i*8+1,none⟩=some (.int .i64 fl)∧wx.cell? ⟨b,o+i*8+2,none⟩=some (.int .i64 k2)∧wx.cell? ⟨b,o+i*8+2+1,none⟩=some (.string s2)∧wx.cell? ⟨b,o+i*8+2+2,none⟩=some (.int .i64 n2)∧wx.cell? ⟨b,o+i*8+2+3,none⟩=some (.slice Aq ps2.length cq)∧wx.cell? ⟨b,o+i*8+2+4,none⟩=some (.slice Ag fs2.length cg)∧wx.cell? ⟨b,o+i*8+2+5,none⟩=some (.slice Ah vs2.length ch)):=Hd fun wx hx=>
    ⟨cell_stays hx hc0,cell_stays hx hc1,cell_stays hx (hcs 0 _ rfl),cell_stays hx (hcs 1 _ rfl),cell_stays hx (hcs 2 _ rfl),cell_stays hx (hcs 3 _ rfl),cell_stays hx (hcs 4 _ rfl),cell_stays hx (hcs 5 _ rfl)⟩
   have KN:=Hd fun wx=>name_ref nm wx hsz
   have HIn:Hid (i+1≤l.length):=Hd hin
   have HCC:Hid (∀ wx,Below wr.heap.size wr wx→wx.cell? ⟨b,o+i*8,none⟩=some (.string nm)∧wx.cell? ⟨b,o+i*8+1,none⟩=some (.int .i64 fl)∧wx.cell? ⟨b,o+i*8+2,none⟩=some (.int .i64 k2)∧wx.cell? ⟨b,o+i*8+2+1,none⟩=some (.string s2)∧wx.cell? ⟨b,o+i*8+2+2,none⟩=some (.int .i64 n2)∧wx.cell? ⟨b,o+i*8+2+3,none⟩=some (.slice Aq ps2.length cq)∧wx.cell? ⟨b,o+i*8+2+4,none⟩=some (.slice Ag fs2.length cg)∧wx.cell? ⟨b,o+i*8+2+5,none⟩=some (.slice Ah vs2.length ch)):=Hd fun wx hx=>HX.out wx (HB.out.trans (hx.mono HB.out.size))
   have hbr:=HB.out
   clear hi hat hc0 hc1 hcs hrep hsz
   generalize formT (.mk k2 s2 n2 ps2 fs2 vs2)=qf at HOK KForm
   cases hn:nameT nm with
   | false=>
    have HF:=Hd (HNO.out (by rw[HOK.out,hn];simp))
    rw[hn] at KN
    clear hn hbr KForm HX HCell HOK
    go_wp2_with fail
    refine wp_region_held_drew (S:=(fun w'=>w'.cell? ⟨b,o+i*8,none⟩=some (.string nm)∧w'.cell? ⟨b,o+i*8+1,none⟩=some (.int .i64 fl)∧w'.cell? ⟨b,o+i*8+2,none⟩=some (.int .i64 k2)∧w'.cell? ⟨b,o+i*8+2+1,none⟩=some (.string s2)∧w'.cell? ⟨b,o+i*8+2+2,none⟩=some (.int .i64 n2)∧w'.cell? ⟨b,o+i*8+2+3,none⟩=some (.slice Aq ps2.length cq)∧w'.cell? ⟨b,o+i*8+2+4,none⟩=some (.slice Ag fs2.length cg)∧w'.cell? ⟨b,o+i*8+2+5,none⟩=some (.slice Ah vs2.length ch))) (by kernel_rfl) (HCC.out _ (Below.refl _ _).drew) (fun hHeld=>?_)
    refine Plan.start [0,1,2,3,4] ?_
    iterate 5 (refine Plan.tk (so rfl) hHeld ?_;try simp only[Act.put,pz1,pz2,pz3])
    refine Plan.done ?_
    refine wpAnyH_ready (rs:=[5]) (by kernel_rfl) (by simp) ?_
    refine AllReadyH.cons (sd (some 15) rfl) (fun K hK=>?_) AllReadyH.nil
    go_simp
    refine (KN.out _).mono ?_
    rintro e w2 ⟨rfl,hb2⟩
    have HB2:=Hd ((Below.refl wr.heap.size wr).drew.trans hb2)
    clear hb2
    go_wp2_with fail
    refine hK.out _ _ (HCC.out _ HB2.out) (fun hHeld=>?_)
    clear hK K
    try simp only[Act.put,pz1,pz2,pz3]
    refine Plan.start [6,7] ?_
    iterate 2 (refine Plan.tk (so rfl) hHeld ?_;try simp only[Act.put,pz1,pz2,pz3])
    refine Plan.done ?_
    refine Plan.start [8,9,10,11,12,13] ?_
    iterate 6 (refine Plan.take (v:=undef) (so rfl) (by kernel_rfl) (by kernel_rfl) (by kernel_rfl) (fun _ _ _ h=>h) (Or.inr ⟨by rfl,rfl⟩) hHeld ?_;try simp only[Act.put,pz1,pz2,pz3])
    refine Plan.done ?_
    refine Plan.start [14,15] ?_
    iterate 2 (refine Plan.tk (so rfl) hHeld ?_;try simp only[Act.put,pz1,pz2,pz3])
    refine Plan.done ?_
    refine Plan.start [16,17,18,19,20,21] ?_
    iterate 6 (refine Plan.take (v:=undef) (so rfl) (by kernel_rfl) (by kernel_rfl) (by kernel_rfl) (fun _ _ _ h=>h) (Or.inr ⟨by rfl,rfl⟩) hHeld ?_;try simp only[Act.put,pz1,pz2,pz3])
    refine Plan.done ?_
    refine Plan.start [22,23] ?_
    iterate 2 (refine Plan.tk (so rfl) hHeld ?_;try simp only[Act.put,pz1,pz2,pz3])
    refine Plan.done ?_
    refine Plan.start [24,25,26,27,28,29,30] ?_
    iterate 7 (refine Plan.take (v:=undef) (so rfl) (by kernel_rfl) (by kernel_rfl) (by kernel_rfl) (fun _ _ _ h=>h) (Or.inr ⟨by rfl,rfl⟩) hHeld ?_;try simp only[Act.put,pz1,pz2,pz3])
    refine Plan.done ?_
    refine Plan.start [31,32] ?_
    iterate 2 (refine Plan.tk (so rfl) hHeld ?_;try simp only[Act.put,pz1,pz2,pz3])
    refine Plan.done ?_
    refine Plan.start [33,34,35,36,37,38,39,40,41,42,43,44,45,46,47,48] ?_
    iterate 16 (refine Plan.take (v:=undef) (so rfl) (by kernel_rfl) (by kernel_rfl) (by kernel_rfl) (fun _ _ _ h=>h) (Or.inr ⟨by rfl,rfl⟩) hHeld ?_;try simp only[Act.put,pz1,pz2,pz3])
    refine Plan.done ?_
    refine Plan.start [49] ?_
    refine Plan.tk (so rfl) hHeld ?_
    try simp only[Act.put,pz1,pz2,pz3]
    refine Plan.done ?_
    refine wpAnyH_done (by kernel_rfl) ?_ _
    clear hHeld
    go_wp2_with fail
    go_ret
    exact⟨by rw[HF.out];rfl,HB.out.trans (HB2.out.mono HB.out.size)⟩
   | true=>
    rw[hn] at KN
    by_cases hf0:fl<0
    ·have f0:decide (fl<0)=true:=decide_eq_true hf0
     have HF:=Hd (HNO.out (by rw[HOK.out,hn,decide_eq_false (show ¬ 0≤fl by omega)];simp))
     clear hn hbr KForm HX HCell HOK
     go_wp2_with fail
     refine wp_region_held_drew (S:=(fun w'=>w'.cell? ⟨b,o+i*8,none⟩=some (.string nm)∧w'.cell? ⟨b,o+i*8+1,none⟩=some (.int .i64 fl)∧w'.cell? ⟨b,o+i*8+2,none⟩=some (.int .i64 k2)∧w'.cell? ⟨b,o+i*8+2+1,none⟩=some (.string s2)∧w'.cell? ⟨b,o+i*8+2+2,none⟩=some (.int .i64 n2)∧w'.cell? ⟨b,o+i*8+2+3,none⟩=some (.slice Aq ps2.length cq)∧w'.cell? ⟨b,o+i*8+2+4,none⟩=some (.slice Ag fs2.length cg)∧w'.cell? ⟨b,o+i*8+2+5,none⟩=some (.slice Ah vs2.length ch))) (by kernel_rfl) (HCC.out _ (Below.refl _ _).drew) (fun hHeld=>?_)
     refine Plan.start [0,1,2,3,4] ?_
     iterate 5 (refine Plan.tk (so rfl) hHeld ?_;try simp only[Act.put,pz1,pz2,pz3])
     refine Plan.done ?_
     refine wpAnyH_ready (rs:=[5]) (by kernel_rfl) (by simp) ?_
     refine AllReadyH.cons (sd (some 15) rfl) (fun K hK=>?_) AllReadyH.nil
     go_simp
     refine (KN.out _).mono ?_
     rintro e w2 ⟨rfl,hb2⟩
     have HB2:=Hd ((Below.refl wr.heap.size wr).drew.trans hb2)
     clear hb2
     go_wp2_with fail
     refine hK.out _ _ (HCC.out _ HB2.out) (fun hHeld=>?_)
     clear hK K
     try simp only[Act.put,pz1,pz2,pz3]
     refine Plan.start [6,7,8,9,10,11,12,13,14,15] ?_
     iterate 10 (refine Plan.tk (so rfl) hHeld ?_;try simp only[Act.put,pz1,pz2,pz3])
     refine Plan.done ?_
     refine Plan.start [16,17,18,19,20,21] ?_
     iterate 6 (refine Plan.take (v:=undef) (so rfl) (by kernel_rfl) (by kernel_rfl) (by kernel_rfl) (fun _ _ _ h=>h) (Or.inr ⟨by rfl,rfl⟩) hHeld ?_;try simp only[Act.put,pz1,pz2,pz3])
     refine Plan.done ?_
     refine Plan.start [22,23] ?_
     iterate 2 (refine Plan.tk (so rfl) hHeld ?_;try simp only[Act.put,pz1,pz2,pz3])
     refine Plan.done ?_
     refine Plan.start [24,25,26,27,28,29,30] ?_
     iterate 7 (refine Plan.take (v:=undef) (so rfl) (by kernel_rfl) (by kernel_rfl) (by kernel_rfl) (fun _ _ _ h=>h) (Or.inr ⟨by rfl,rfl⟩) hHeld ?_;try simp only[Act.put,pz1,pz2,pz3])
     refine Plan.done ?_
     refine Plan.start [31,32] ?_
     iterate 2 (refine Plan.tk (so rfl) hHeld ?_;try simp only[Act.put,pz1,pz2,pz3])
     refine Plan.done ?_
     refine Plan.start [33,34,35,36,37,38,39,40,41,42,43,44,45,46,47,48] ?_
     iterate 16 (refine Plan.take (v:=undef) (so rfl) (by kernel_rfl) (by kernel_rfl) (by kernel_rfl) (fun _ _ _ h=>h) (Or.inr ⟨by rfl,rfl⟩) hHeld ?_;try simp only[Act.put,pz1,pz2,pz3])
     refine Plan.done ?_
     refine Plan.start [49] ?_
     refine Plan.tk (so rfl) hHeld ?_
     try simp only[Act.put,pz1,pz2,pz3]
     refine Plan.done ?_
     refine wpAnyH_done (by kernel_rfl) ?_ _
     clear hHeld
     go_wp2_with fail
     go_ret
     exact⟨by rw[HF.out];rfl,HB.out.trans (HB2.out.mono HB.out.size)⟩
    ·have f0:decide (fl<0)=false:=decide_eq_false hf0
     by_cases hf3:3<fl
     ·have f3:decide ((3:Int)<fl)=true:=decide_eq_true hf3
      have HF:=Hd (HNO.out (by rw[HOK.out,hn,decide_eq_false (show ¬ fl≤3 by omega)];simp))
      clear hn hbr KForm HX HCell HOK
      go_wp2_with fail
      refine wp_region_held_drew (S:=(fun w'=>w'.cell? ⟨b,o+i*8,none⟩=some (.string nm)∧w'.cell? ⟨b,o+i*8+1,none⟩=some (.int .i64 fl)∧w'.cell? ⟨b,o+i*8+2,none⟩=some (.int .i64 k2)∧w'.cell? ⟨b,o+i*8+2+1,none⟩=some (.string s2)∧w'.cell? ⟨b,o+i*8+2+2,none⟩=some (.int .i64 n2)∧w'.cell? ⟨b,o+i*8+2+3,none⟩=some (.slice Aq ps2.length cq)∧w'.cell? ⟨b,o+i*8+2+4,none⟩=some (.slice Ag fs2.length cg)∧w'.cell? ⟨b,o+i*8+2+5,none⟩=some (.slice Ah vs2.length ch))) (by kernel_rfl) (HCC.out _ (Below.refl _ _).drew) (fun hHeld=>?_)
      refine Plan.start [0,1,2,3,4] ?_
      iterate 5 (refine Plan.tk (so rfl) hHeld ?_;try simp only[Act.put,pz1,pz2,pz3])
      refine Plan.done ?_
      refine wpAnyH_ready (rs:=[5]) (by kernel_rfl) (by simp) ?_
      refine AllReadyH.cons (sd (some 15) rfl) (fun K hK=>?_) AllReadyH.nil
      go_simp
      refine (KN.out _).mono ?_
      rintro e w2 ⟨rfl,hb2⟩
      have HB2:=Hd ((Below.refl wr.heap.size wr).drew.trans hb2)
      clear hb2
      go_wp2_with fail
      refine hK.out _ _ (HCC.out _ HB2.out) (fun hHeld=>?_)
      clear hK K
      try simp only[Act.put,pz1,pz2,pz3]
      refine Plan.start [6,7,8,9,10,11,12,13,14,15,16,17,18,19,20,21,22,23] ?_
      iterate 18 (refine Plan.tk (so rfl) hHeld ?_;try simp only[Act.put,pz1,pz2,pz3])
      refine Plan.done ?_
      refine Plan.start [24,25,26,27,28,29,30] ?_
      iterate 7 (refine Plan.take (v:=undef) (so rfl) (by kernel_rfl) (by kernel_rfl) (by kernel_rfl) (fun _ _ _ h=>h) (Or.inr ⟨by rfl,rfl⟩) hHeld ?_;try simp only[Act.put,pz1,pz2,pz3])
      refine Plan.done ?_
      refine Plan.start [31,32] ?_
      iterate 2 (refine Plan.tk (so rfl) hHeld ?_;try simp only[Act.put,pz1,pz2,pz3])
      refine Plan.done ?_
      refine Plan.start [33,34,35,36,37,38,39,40,41,42,43,44,45,46,47,48] ?_
      iterate 16 (refine Plan.take (v:=undef) (so rfl) (by kernel_rfl) (by kernel_rfl) (by kernel_rfl) (fun _ _ _ h=>h) (Or.inr ⟨by rfl,rfl⟩) hHeld ?_;try simp only[Act.put,pz1,pz2,pz3])
      refine Plan.done ?_
      refine Plan.start [49] ?_
      refine Plan.tk (so rfl) hHeld ?_
      try simp only[Act.put,pz1,pz2,pz3]
      refine Plan.done ?_
      refine wpAnyH_done (by kernel_rfl) ?_ _
      clear hHeld
      go_wp2_with fail
      go_ret
      exact⟨by rw[HF.out];rfl,HB.out.trans (HB2.out.mono HB.out.size)⟩
     ·have f3:decide ((3:Int)<fl)=false:=decide_eq_false hf3
      have HFl:Hid (nameT nm=true∧decide (0≤fl)=true∧decide (fl≤3)=true):=Hd ⟨hn,decide_eq_true (by omega),decide_eq_true (by omega)⟩
      clear hf0 hf3 hn
      cases qf with
      | false=>
       have HF:=Hd (HNO.out (by rw[HOK.out];simp))
       clear hbr HX HCell HOK
       go_wp2_with fail
       refine wp_region_held_drew (S:=(fun w'=>w'.cell? ⟨b,o+i*8,none⟩=some (.string nm)∧w'.cell? ⟨b,o+i*8+1,none⟩=some (.int .i64 fl)∧w'.cell? ⟨b,o+i*8+2,none⟩=some (.int .i64 k2)∧w'.cell? ⟨b,o+i*8+2+1,none⟩=some (.string s2)∧w'.cell? ⟨b,o+i*8+2+2,none⟩=some (.int .i64 n2)∧w'.cell? ⟨b,o+i*8+2+3,none⟩=some (.slice Aq ps2.length cq)∧w'.cell? ⟨b,o+i*8+2+4,none⟩=some (.slice Ag fs2.length cg)∧w'.cell? ⟨b,o+i*8+2+5,none⟩=some (.slice Ah vs2.length ch))) (by kernel_rfl) (HCC.out _ (Below.refl _ _).drew) (fun hHeld=>?_)
       refine Plan.start [0,1,2,3,4] ?_
       iterate 5 (refine Plan.tk (so rfl) hHeld ?_;try simp only[Act.put,pz1,pz2,pz3])
       refine Plan.done ?_
       refine wpAnyH_ready (rs:=[5]) (by kernel_rfl) (by simp) ?_
       refine AllReadyH.cons (sd (some 15) rfl) (fun K hK=>?_) AllReadyH.nil
       go_simp
       refine (KN.out _).mono ?_
       rintro e w2 ⟨rfl,hb2⟩
       have HB2:=Hd ((Below.refl wr.heap.size wr).drew.trans hb2)
       clear hb2
       go_wp2_with fail
       refine hK.out _ _ (HCC.out _ HB2.out) (fun hHeld=>?_)
       clear hK K
       try simp only[Act.put,pz1,pz2,pz3]
       refine Plan.start [6,7,8,9,10,11,12,13,14,15,16,17,18,19,20,21,22,23,24,25,26,27,28] ?_
       iterate 23 (refine Plan.tk (so rfl) hHeld ?_;try simp only[Act.put,pz1,pz2,pz3])
       refine Plan.done ?_
       refine wpAnyH_ready (rs:=[29]) (by kernel_rfl) (by simp) ?_
       refine AllReadyH.cons (sd (some 39) rfl) (fun K hK=>?_) AllReadyH.nil
       go_simp
       refine (KForm.out _ (HB.out.trans (HB2.out.mono HB.out.size))).mono ?_
       rintro e w3 ⟨rfl,hb3⟩
       have HB3:=Hd (HB2.out.trans (hb3.mono HB2.out.size))
       clear hb3
       go_wp2_with fail
       refine hK.out _ _ (HCC.out _ HB3.out) (fun hHeld=>?_)
       clear hK K
       try simp only[Act.put,pz1,pz2,pz3]
       refine Plan.start [30,31,32] ?_
       iterate 3 (refine Plan.tk (so rfl) hHeld ?_;try simp only[Act.put,pz1,pz2,pz3])
       refine Plan.done ?_
       refine Plan.start [33,34,35,36,37,38,39,40,41,42,43,44,45,46,47,48] ?_
       iterate 16 (refine Plan.take (v:=undef) (so rfl) (by kernel_rfl) (by kernel_rfl) (by kernel_rfl) (fun _ _ _ h=>h) (Or.inr ⟨by rfl,rfl⟩) hHeld ?_;try simp only[Act.put,pz1,pz2,pz3])
       refine Plan.done ?_
       refine Plan.start [49] ?_
       refine Plan.tk (so rfl) hHeld ?_
       try simp only[Act.put,pz1,pz2,pz3]
       refine Plan.done ?_
       refine wpAnyH_done (by kernel_rfl) ?_ _
       clear hHeld
       go_wp2_with fail
       go_ret
       exact⟨by rw[HF.out];rfl,HB.out.trans (HB3.out.mono HB.out.size)⟩
      | true=>
       rcases Nat.eq_zero_or_pos i with h0 | hpos
       ·subst h0
        have HOK2:Hid (∀ j,j<0+1→okF (fieldsT l formT) j=true):=Hd fun j hj=>by
         have:j=0:=by omega
         subst this
         rw[HOK.out,HFl.out.1,HFl.out.2.1,HFl.out.2.2];rfl
        simp only[Nat.zero_mul,Nat.add_zero] at HCC KForm
        clear hbr HX HCell HOK
        go_wp2_with fail
        refine wp_region_held_drew (S:=(fun w'=>w'.cell? ⟨b,o,none⟩=some (.string nm)∧w'.cell? ⟨b,o+1,none⟩=some (.int .i64 fl)∧w'.cell? ⟨b,o+2,none⟩=some (.int .i64 k2)∧w'.cell? ⟨b,o+2+1,none⟩=some (.string s2)∧w'.cell? ⟨b,o+2+2,none⟩=some (.int .i64 n2)∧w'.cell? ⟨b,o+2+3,none⟩=some (.slice Aq ps2.length cq)∧w'.cell? ⟨b,o+2+4,none⟩=some (.slice Ag fs2.length cg)∧w'.cell? ⟨b,o+2+5,none⟩=some (.slice Ah vs2.length ch))) (by kernel_rfl) (HCC.out _ (Below.refl _ _).drew) (fun hHeld=>?_)
        refine Plan.start [0,1,2,3,4] ?_
        iterate 5 (refine Plan.tk (so rfl) hHeld ?_;try simp only[Act.put,pz1,pz2,pz3])
        refine Plan.done ?_
        refine wpAnyH_ready (rs:=[5]) (by kernel_rfl) (by simp) ?_
        refine AllReadyH.cons (sd (some 15) rfl) (fun K hK=>?_) AllReadyH.nil
        go_simp
        refine (KN.out _).mono ?_
        rintro e w2 ⟨rfl,hb2⟩
        have HB2:=Hd ((Below.refl wr.heap.size wr).drew.trans hb2)
        clear hb2
        go_wp2_with fail
        refine hK.out _ _ (HCC.out _ HB2.out) (fun hHeld=>?_)
        clear hK K
        try simp only[Act.put,pz1,pz2,pz3]
        refine Plan.start [6,7,8,9,10,11,12,13,14,15,16,17,18,19,20,21,22,23,24,25,26,27,28] ?_
        iterate 23 (refine Plan.tk (so rfl) hHeld ?_;try simp only[Act.put,pz1,pz2,pz3])
        refine Plan.done ?_
        refine wpAnyH_ready (rs:=[29]) (by kernel_rfl) (by simp) ?_
        refine AllReadyH.cons (sd (some 39) rfl) (fun K hK=>?_) AllReadyH.nil
        go_simp
        refine (KForm.out _ (HB.out.trans (HB2.out.mono HB.out.size))).mono ?_
        rintro e w3 ⟨rfl,hb3⟩
        have HB3:=Hd (HB2.out.trans (hb3.mono HB2.out.size))
        clear hb3
        go_wp2_with fail
        refine hK.out _ _ (HCC.out _ HB3.out) (fun hHeld=>?_)
        clear hK K
        try simp only[Act.put,pz1,pz2,pz3]
        refine Plan.start [30,31,32,33,34,35] ?_
        iterate 6 (refine Plan.tk (so rfl) hHeld ?_;try simp only[Act.put,pz1,pz2,pz3])
        refine Plan.done ?_
        refine Plan.start [36,37,38,39,40,41,42,43,44,45,46,47] ?_
        iterate 12 (refine Plan.take (v:=undef) (so rfl) (by kernel_rfl) (by kernel_rfl) (by kernel_rfl) (fun _ _ _ h=>h) (Or.inr ⟨by rfl,rfl⟩) hHeld ?_;try simp only[Act.put,pz1,pz2,pz3])
        refine Plan.done ?_
        refine Plan.start [48,49] ?_
        iterate 2 (refine Plan.tk (so rfl) hHeld ?_;try simp only[Act.put,pz1,pz2,pz3])
        refine Plan.done ?_
        refine wpAnyH_done (by kernel_rfl) ?_ _
        clear hHeld
        go_wp2_with fail
        refine⟨⟨0+1,HIn.out,by first | rfl | rw[wr2],HOK2.out,HB.out.trans (HB3.out.mono HB.out.size)⟩,?_⟩
        first | exact HM.out | (rw[wr2];exact HM.out)
       ·obtain⟨m,hm⟩:∃ m,i=m+1:=⟨i - 1,by omega⟩
        obtain⟨q,hq,hcq0⟩:=HCell.out m (by omega)
        have hcq:=cell_stays hbr hcq0
        have HCD:Hid (∀ wx,Below wr.heap.size wr wx→wx.cell? ⟨b,o+m*8,none⟩=some (.string q)):=Hd fun wx hx=>cell_stays hx hcq
        have wr1:wrap64 ((i:Int) - 1)=((m:Nat):Int):=by rw[wrap_in (by omega) (by omega)];omega
        have wr1':IntKind.i64.wrap ((i:Int) - 1)=((m:Nat):Int):=by
         have e:IntKind.i64.wrap ((i:Int) - 1)=wrap64 ((i:Int) - 1):=by unfold wrap64;exact IntKind.wrap_i64 _
         rw[e,wr1]
        have wr3:wrap64 (m:Int)=(m:Int):=wrap_in (by omega) (by omega)
        have wr3':IntKind.i64.wrap (m:Int)=(m:Int):=by
         have e:IntKind.i64.wrap (m:Int)=wrap64 (m:Int):=by unfold wrap64;exact IntKind.wrap_i64 _
         rw[e,wr3]
        have i2:(0:Int)≤(m:Int):=by omega
        have i3:(m:Int)<(l.length:Int):=by omega
        have i5:m<l.length:=by omega
        have i4:(0:Int)<(i:Int):=by omega
        have i6:decide ((0:Int)<(i:Int))=true:=decide_eq_true i4
        have i7:decide (0<i)=true:=decide_eq_true hpos
        have HLess:Hid (lastOk l i nm=Go.Op.bytesLess q.toList nm.toList):=Hd (by
         subst hm
         simp only[lastOk,List.getElem?_eq_getElem (show m<l.length by omega)]
         rw[hq])
        cases hbl:Go.Op.bytesLess q.toList nm.toList with
        | true=>
         have HOK2:Hid (∀ j,j<i+1→okF (fieldsT l formT) j=true):=Hd fun j hj=>by
          rcases Nat.lt_or_ge j i with h1 | h1
          ·exact HE.out j h1
          ·have:j=i:=by omega
           subst this
           rw[HOK.out,HFl.out.1,HFl.out.2.1,HFl.out.2.2,HLess.out,hbl];rfl
         clear hbr HX HCell HOK hq hcq0 hcq hm
         go_wp2_with fail
         refine wp_region_held_drew (S:=(fun w'=>(w'.cell? ⟨b,o+i*8,none⟩=some (.string nm)∧w'.cell? ⟨b,o+i*8+1,none⟩=some (.int .i64 fl)∧w'.cell? ⟨b,o+i*8+2,none⟩=some (.int .i64 k2)∧w'.cell? ⟨b,o+i*8+2+1,none⟩=some (.string s2)∧w'.cell? ⟨b,o+i*8+2+2,none⟩=some (.int .i64 n2)∧w'.cell? ⟨b,o+i*8+2+3,none⟩=some (.slice Aq ps2.length cq)∧w'.cell? ⟨b,o+i*8+2+4,none⟩=some (.slice Ag fs2.length cg)∧w'.cell? ⟨b,o+i*8+2+5,none⟩=some (.slice Ah vs2.length ch))∧w'.cell? ⟨b,o+m*8,none⟩=some (.string q))) (by kernel_rfl) (⟨HCC.out _ (Below.refl _ _).drew,HCD.out _ (Below.refl _ _).drew⟩) (fun hHeld=>?_)
         refine Plan.start [0,1,2,3,4] ?_
         iterate 5 (refine Plan.tk (so rfl) hHeld ?_;try simp only[Act.put,pz1,pz2,pz3])
         refine Plan.done ?_
         refine wpAnyH_ready (rs:=[5]) (by kernel_rfl) (by simp) ?_
         refine AllReadyH.cons (sd (some 15) rfl) (fun K hK=>?_) AllReadyH.nil
         go_simp
         refine (KN.out _).mono ?_
         rintro e w2 ⟨rfl,hb2⟩
         have HB2:=Hd ((Below.refl wr.heap.size wr).drew.trans hb2)
         clear hb2
         go_wp2_with fail
         refine hK.out _ _ (⟨HCC.out _ HB2.out,HCD.out _ HB2.out⟩) (fun hHeld=>?_)
         clear hK K
         try simp only[Act.put,pz1,pz2,pz3]
         refine Plan.start [6,7,8,9,10,11,12,13,14,15,16,17,18,19,20,21,22,23,24,25,26,27,28] ?_
         iterate 23 (refine Plan.tk (so rfl) hHeld ?_;try simp only[Act.put,pz1,pz2,pz3])
         refine Plan.done ?_
         refine wpAnyH_ready (rs:=[29]) (by kernel_rfl) (by simp) ?_
         refine AllReadyH.cons (sd (some 39) rfl) (fun K hK=>?_) AllReadyH.nil
         go_simp
         refine (KForm.out _ (HB.out.trans (HB2.out.mono HB.out.size))).mono ?_
         rintro e w3 ⟨rfl,hb3⟩
         have HB3:=Hd (HB2.out.trans (hb3.mono HB2.out.size))
         clear hb3
         go_wp2_with fail
         refine hK.out _ _ (⟨HCC.out _ HB3.out,HCD.out _ HB3.out⟩) (fun hHeld=>?_)
         clear hK K
         try simp only[Act.put,pz1,pz2,pz3]
         refine Plan.start [30,31,32,33,34,35,36,37,38,39,40,41,42,43,44,45,46,47,48,49] ?_
         iterate 20 (refine Plan.tk (so rfl) hHeld ?_;try simp only[Act.put,pz1,pz2,pz3])
         refine Plan.done ?_
         refine wpAnyH_done (by kernel_rfl) ?_ _
         clear hHeld
         go_wp2_with fail
         refine⟨⟨i+1,HIn.out,by first | rfl | rw[wr2],HOK2.out,HB.out.trans (HB3.out.mono HB.out.size)⟩,?_⟩
         first | exact HM.out | (rw[wr2];exact HM.out)
        | false=>
         have HF:=Hd (HNO.out (by rw[HOK.out,HLess.out,hbl];simp))
         clear hbr HX HCell HOK hq hcq0 hcq hm
         go_wp2_with fail
         refine wp_region_held_drew (S:=(fun w'=>(w'.cell? ⟨b,o+i*8,none⟩=some (.string nm)∧w'.cell? ⟨b,o+i*8+1,none⟩=some (.int .i64 fl)∧w'.cell? ⟨b,o+i*8+2,none⟩=some (.int .i64 k2)∧w'.cell? ⟨b,o+i*8+2+1,none⟩=some (.string s2)∧w'.cell? ⟨b,o+i*8+2+2,none⟩=some (.int .i64 n2)∧w'.cell? ⟨b,o+i*8+2+3,none⟩=some (.slice Aq ps2.length cq)∧w'.cell? ⟨b,o+i*8+2+4,none⟩=some (.slice Ag fs2.length cg)∧w'.cell? ⟨b,o+i*8+2+5,none⟩=some (.slice Ah vs2.length ch))∧w'.cell? ⟨b,o+m*8,none⟩=some (.string q))) (by kernel_rfl) (⟨HCC.out _ (Below.refl _ _).drew,HCD.out _ (Below.refl _ _).drew⟩) (fun hHeld=>?_)
         refine Plan.start [0,1,2,3,4] ?_
         iterate 5 (refine Plan.tk (so rfl) hHeld ?_;try simp only[Act.put,pz1,pz2,pz3])
         refine Plan.done ?_
         refine wpAnyH_ready (rs:=[5]) (by kernel_rfl) (by simp) ?_
         refine AllReadyH.cons (sd (some 15) rfl) (fun K hK=>?_) AllReadyH.nil
         go_simp
         refine (KN.out _).mono ?_
         rintro e w2 ⟨rfl,hb2⟩
         have HB2:=Hd ((Below.refl wr.heap.size wr).drew.trans hb2)
         clear hb2
         go_wp2_with fail
         refine hK.out _ _ (⟨HCC.out _ HB2.out,HCD.out _ HB2.out⟩) (fun hHeld=>?_)
         clear hK K
         try simp only[Act.put,pz1,pz2,pz3]
         refine Plan.start [6,7,8,9,10,11,12,13,14,15,16,17,18,19,20,21,22,23,24,25,26,27,28] ?_
         iterate 23 (refine Plan.tk (so rfl) hHeld ?_;try simp only[Act.put,pz1,pz2,pz3])
         refine Plan.done ?_
         refine wpAnyH_ready (rs:=[29]) (by kernel_rfl) (by simp) ?_
         refine AllReadyH.cons (sd (some 39) rfl) (fun K hK=>?_) AllReadyH.nil
         go_simp
         refine (KForm.out _ (HB.out.trans (HB2.out.mono HB.out.size))).mono ?_
         rintro e w3 ⟨rfl,hb3⟩
         have HB3:=Hd (HB2.out.trans (hb3.mono HB2.out.size))
         clear hb3
         go_wp2_with fail
         refine hK.out _ _ (⟨HCC.out _ HB3.out,HCD.out _ HB3.out⟩) (fun hHeld=>?_)
         clear hK K
         try simp only[Act.put,pz1,pz2,pz3]
         refine Plan.start [30,31,32,33,34,35,36,37,38,39,40,41,42,43,44,45,46,47,48,49] ?_
         iterate 20 (refine Plan.tk (so rfl) hHeld ?_;try simp only[Act.put,pz1,pz2,pz3])
         refine Plan.done ?_
         refine wpAnyH_done (by kernel_rfl) ?_ _
         clear hHeld
         go_wp2_with fail
         go_ret
         exact⟨by rw[HF.out];rfl,HB.out.trans (HB3.out.mono HB.out.size)⟩
  ·have t1:decide ((i:Int)<(l.length:Int))=false:=by simp;omega
   have HT1:Hid (fieldsB (fieldsT l formT)=true):=Hd (by unfold fieldsB;rw[range_all];exact fun j hj=>HE.out j (by rw[fieldsT_len] at hj;omega))
   clear hi
   go_wp2_with fail
   go_ret
   exact⟨by rw[HT1.out];rfl,HB.out⟩
theorem emptyL:emptyB.toList=[]:=by rw[ByteArray.toList_eq];rfl
theorem infT_kind {k:Int} (h:k≠22):infT (tyK k)=false:=by
 unfold tyK
 rw[infT_mk]
 have e:(k == 22)=false:=by simpa using h
 rw[e];rfl
theorem plainT_form {t:Ty} (h:formT t=true):PlainT t:=⟨fun e=>by rw[form_kind h e (by decide) (by decide)];exact infT_kind (by decide),form_leaf h⟩
theorem plainT_flat {l:List Ty} (h:∀ x∈l,formT x=true):∀ x∈flatU l,PlainT x:=fun x hx=>plainT_form (flatU_form (List.all_eq_true.2 h) x hx)
theorem form_tyK {k:Int} (h1:1≤k) (h8:k≤8):formT (tyK k)=true:=by
 unfold tyK
 rw[formT_mk]
 have hs:shapeK k=⟨false,false,false,false,0,0,true⟩:=by unfold shapeK;rw[if_pos ⟨h1,h8⟩]
 rw[hs]
 unfold selfB
 rw[if_neg (by omega),if_neg (by omega),if_neg (by omega),if_neg (by omega),if_neg (by omega),if_neg (by omega),if_neg (by omega),if_neg (by omega)]
 unfold fitsB
 simp[emptyL]
theorem form_ps {t:Ty} (h:formT t=true):∀ p∈t.ps,formT p=true:=by
 obtain⟨k,s,n,ps,fs,vs⟩:=t
 rw[formT_mk,Bool.and_eq_true,List.all_eq_true] at h
 exact h.2
theorem form_self {k:Int} {t:ByteArray} {n:Int} {ps:List Ty} {fs:FsT} {vs:VsT} (h:formT (.mk k t n ps fs vs)=true):selfB k t n ps (fieldsB (fieldsT fs formT)) (varsB (varsT vs formT))=true:=by
 rw[formT_mk,Bool.and_eq_true,Bool.and_eq_true] at h
 exact h.1.2
theorem form_15 {t:ByteArray} {n:Int} {ps:List Ty} {fs:FsT} {vs:VsT} (h:formT (.mk 15 t n ps fs vs)=true):2≤ps.length∧t=emptyB∧n=0∧fs=[]∧vs=[]∧isUB ps=true:=by
 have hf:=form_fits h
 have hs:shapeK 15=⟨false,false,false,false,2,-1,true⟩:=rfl
 rw[hs] at hf
 unfold fitsB at hf
 simp only[Bool.and_eq_true,Bool.not_eq_true',Bool.or_eq_false_iff,Bool.or_eq_true,decide_eq_true_eq,beq_iff_eq,Bool.not_false,Bool.true_and,decide_eq_false_iff_not] at hf
 obtain⟨⟨⟨⟨h1,h2⟩,h3⟩,h4⟩,h5,h6⟩:=hf
 refine⟨by omega,bytes_ext ?_,by simpa using h2,List.eq_nil_of_length_eq_zero (by omega),List.eq_nil_of_length_eq_zero (by omega),?_⟩
 ·have:t.toList=[]:=by simpa using h1
  rw[ByteArray.toList_eq] at this;rw[this];rfl
 ·have:=form_self h
  unfold selfB at this
  simpa using this
theorem union_of_parts {t:Ty} (h:formT t=true) (hk:t.k=15):unionT t.ps=t:=by
 obtain⟨k,s,n,ps,fs,vs⟩:=t
 have hk':k=15:=hk
 subst hk'
 obtain⟨h2,rfl,rfl,rfl,rfl,hu⟩:=form_15 h
 exact (isUB_self h2).1 hu
theorem union_self {t:Ty} (h:formT t=true):unionT [t]=t:=by
 by_cases hk:t.k=15
 ·refine Eq.trans (union_congr fun x=>?_) (union_of_parts h hk)
  rw[mem_flatU];simp only[List.mem_singleton,exists_eq_left]
  rw[parts1_15 hk]
 ·have hf:flatU [t]=[t]:=flat_self fun x hx=>by rw[List.mem_singleton] at hx;subst hx;exact hk
  have one:∀ {k:Int},hasK k [t]=decide (t.k=k):=fun {k}=>by
   rw[Bool.eq_iff_iff,hasKc,decide_eq_true_eq];simp
  by_cases h1:t.k=1
  ·have e:keptU [t]=[]:=by unfold keptU;rw[hf,List.filter_eq_nil_iff];intro x hx;rw[List.mem_singleton] at hx;subst hx;rw[keepT_1 _ h1];decide
   unfold unionT;rw[e,form_kind h h1 (by decide) (by decide)];rfl
  ·have e:keptU [t]=[t]:=by
    unfold keptU;rw[hf,List.filter_eq_self];intro x hx;rw[List.mem_singleton] at hx;subst hx
    by_cases h3:x.k=3
    ·exact keepT_3 _ h3
    by_cases h2:x.k=2
    ·rw[keepT_2 _ h2 ((plainT_form h).1 h2),a_of,one,decide_eq_false h3];rfl
    rw[keepT_free _ h3 h1 h2 (by rw[a_of,one,decide_eq_false h3]) (by rw[u_of,one,decide_eq_false h2])]
    by_cases h9:x.k=9
    ·rw[if_pos h9,n_of,one,decide_eq_false (by omega)];rfl
    ·rw[if_neg h9]
     by_cases h10:x.k=10
     ·rw[if_pos h10,s_of,one,decide_eq_false (by omega)];rfl
     ·rw[if_neg h10]
   unfold unionT;rw[e];rfl
theorem form_union {l:List Ty} (h:∀ x∈l,formT x=true):formT (unionT l)=true:=by
 have hp:=parts_union l
 have hu:=union_parts l (plainT_flat h)
 have hm:∀ x∈sortT (keptU l),formT x=true:=fun x hx=>flatU_form (List.all_eq_true.2 h) x (mem_keptU.1 ((mem_sortT x _).1 hx)).1
 rw[hp] at hu
 unfold unionT at hp hu ⊢
 generalize sortT (keptU l)=s at hp hu hm
 rcases s with _ | ⟨x,_ | ⟨y,s⟩⟩
 ·exact form_tyK (by decide) (by decide)
 ·exact hm x (by simp)
 ·show formT (.mk 15 emptyB 0 (x :: y :: s) [] [])=true
  rw[formT_mk]
  have hs:shapeK 15=⟨false,false,false,false,2,-1,true⟩:=rfl
  rw[hs]
  have hb:isUB (x :: y :: s)=true:=(isUB_self (by simp)).2 hu
  have hself:selfB 15 emptyB 0 (x :: y :: s) (fieldsB (fieldsT [] formT)) (varsB (varsT [] formT))=true:=by unfold selfB;simpa using hb
  rw[hself,Bool.and_true,Bool.and_eq_true,List.all_eq_true]
  refine⟨?_,hm⟩
  unfold fitsB
  simp[emptyL]
  omega
theorem form_fields {t:Ty} (h:formT t=true) (hk:t.k=14):fieldsB (fieldsT t.fs formT)=true:=by
 obtain⟨k,s,n,ps,fs,vs⟩:=t
 have hk':k=14:=hk
 subst hk'
 have:=form_self h
 unfold selfB at this
 have h2:fieldsB (fieldsT fs formT)=true:=by simpa using this
 exact h2
theorem fieldsB_at {fs:FsT} (h:fieldsB (fieldsT fs formT)=true) {i:Nat} (hi:i<fs.length):nameT fs[i].1=true∧0≤fs[i].2.1∧fs[i].2.1≤3∧formT fs[i].2.2=true:=by
 unfold fieldsB at h
 rw[range_all] at h
 have:=h i (by rw[fieldsT_len];exact hi)
 rcases i with _ | i
 ·rw[okF_zero hi] at this
  simp only[Bool.and_eq_true,decide_eq_true_eq] at this
  exact⟨this.1.1.1,this.1.1.2,this.1.2,this.2⟩
 ·rw[okF_succ hi] at this
  simp only[Bool.and_eq_true,decide_eq_true_eq] at this
  exact⟨this.1.1.1.1,this.1.1.1.2,this.1.1.2,this.1.2⟩
theorem fieldsB_mem {fs:FsT} (h:fieldsB (fieldsT fs formT)=true) {f:ByteArray×Int×Ty} (hf:f∈fs):nameT f.1=true∧0≤f.2.1∧f.2.1≤3∧formT f.2.2=true:=by
 obtain⟨i,hi,rfl⟩:=List.getElem_of_mem hf
 exact fieldsB_at h hi
theorem cntL_app (l m:List Ty):cntL (l++m)=cntL l+cntL m:=by simp[cntL]
theorem cntL_nil:cntL []=0:=rfl
theorem cntL_filter (q:Ty→Bool):∀ l:List Ty,cntL (l.filter q)≤cntL l
 | []=>Nat.le_refl _
 | a :: l=>by
  have:=cntL_filter q l
  rw[List.filter_cons]
  split
  ·rw[cntL_cons,cntL_cons];omega
  ·rw[cntL_cons];omega
theorem cntL_ins (t:Ty):∀ l,cntL (insT t l)≤cntT t+cntL l
 | []=>by simp[insT,cntL]
 | x :: l=>by
  have:=cntL_ins t l
  unfold insT
  repeat' split
  all_goals simp only[cntL_cons] at *
  all_goals omega
theorem cntL_sort:∀ l,cntL (sortT l)≤cntL l
 | []=>Nat.le_refl _
 | a :: l=>by
  have h1:=cntL_sort l
  have h2:=cntL_ins a (sortT l)
  have e:sortT (a :: l)=insT a (sortT l):=rfl
  rw[e,cntL_cons];omega
theorem cntL_flat_of:∀ (l:List Ty),(∀ p∈l,cntL (parts1 p)≤cntT p)→cntL (flatU l)≤cntL l
 | [],_=>Nat.le_refl _
 | a :: l,h=>by
  have h1:=h a List.mem_cons_self
  have h2:=cntL_flat_of l fun q hq=>h q (List.mem_cons_of_mem _ hq)
  rw[flatU_cons,cntL_app,cntL_cons];omega
theorem cntL_parts1 (t:Ty):cntL (parts1 t)≤cntT t:=by
 refine Ty.ind (C:=fun t=>cntL (parts1 t)≤cntT t) (fun k t n ps fs vs hp _ _=>?_) t
 rw[parts1_mk]
 split
 ·have:=cntL_flat_of ps hp
  rw[cntT_mk];omega
 ·rw[cntL_cons,cntL_nil];omega
theorem cntL_flat (l:List Ty):cntL (flatU l)≤cntL l:=cntL_flat_of l fun p _=>cntL_parts1 p
theorem cnt_kind (k:Int):cntT (tyK k)=1:=by unfold tyK;rw[cntT_mk];rfl
theorem cnt_union (l:List Ty):cntT (unionT l)≤cntL l+1:=by
 have h1:=cntL_sort (keptU l)
 have h2:=cntL_filter (keepT (kindsOf (flatU l))) (flatU l)
 have h3:=cntL_flat l
 have h4:cntL (keptU l)=cntL ((flatU l).filter (keepT (kindsOf (flatU l)))):=rfl
 unfold unionT
 generalize sortT (keptU l)=s at h1
 rcases s with _ | ⟨x,_ | ⟨y,s⟩⟩
 ·show cntT (tyK 1)≤_;rw[cnt_kind];omega
 ·show cntT x≤_;rw[cntL_cons,cntL_nil] at h1;omega
 ·show cntT (.mk 15 emptyB 0 (x :: y :: s) [] [])≤_
  rw[cntT_mk]
  have e1:cntF []=0:=rfl
  have e2:cntV []=0:=rfl
  omega
theorem cnt_ps (t:Ty):cntL t.ps+1≤cntT t:=by
 obtain⟨k,s,n,ps,fs,vs⟩:=t
 rw[cntT_mk];show cntL ps+1≤_;omega
theorem cntF_memT:∀ {l:FsT} {v:ByteArray×Int×Ty},v∈l→cntT v.2.2≤cntF l
 | a :: l,v,h=>by
  have e:cntF (a :: l)=cntT a.2.2+cntF l:=by simp[cntF]
  rw[e]
  rcases List.mem_cons.1 h with rfl | h
  ·omega
  ·have:=cntF_memT h;omega
theorem GatP.go {f:Nat} {L:List (ByteArray×Ty)} {q t:Ty} (h:GatP f L q t) {K K':Nat→Prop} {w0 w wr:World} {m:Nat} {F:ByteArray→Option Rw} {G:List (ByteArray×Ty)} {b o b' o':Nat} (hm:HoldMid w0 w m F G wr) (hT:AtT K w t b o) (hP:AtT K' w q b' o') (hKT:∀ x,K x∨x=b→x<w.heap.size∧¬ rowB m F x) (hKP:∀ x,K' x∨x=b'→x<w.heap.size∧¬ rowB m F x) (hB:w0.heap.size≤w.heap.size)
  (hq:formT q=true) (ht:formT t=true) (hc:cntT q+cntT t≤1000000) (hl:G.length+L.length≤1000000000) :
  Calls Tryz.prog f #[.map (some m),.pointer (some ⟨b,o,none⟩),.pointer (some ⟨b',o',none⟩)] wr fun e w'=>e=.returned (.tuple #[])∧HoldMid w0 w m F (G++L) w':=by
 have hT2:=hm.at hT hKT
 have hP2:=hm.at hP hKP
 obtain⟨F',hG,hb,hf⟩:=hm
 have out:∀ x,x<w.heap.size∧¬ rowB m F x→x<wr.heap.size∧¬ rowB m F' x:=fun x hx=>⟨Nat.lt_of_lt_of_le hx.1 hb.size,fun e=>(hf x e).elim hx.2 (by omega)⟩
 refine (h K K' w0 wr m F' G b o b' o' hT2 hP2 (fun x hx=>out x (hKT x hx)) (fun x hx=>out x (hKP x hx)) hG (Nat.le_trans hB hb.size) hq ht hc hl).mono ?_
 rintro e w' ⟨rfl,hm2⟩
 exact⟨rfl,hm2.comp hb hf (ButG.refl _ _)⟩
end Go.Proofs.YtlpfpehegddcfaaGreatDoor
