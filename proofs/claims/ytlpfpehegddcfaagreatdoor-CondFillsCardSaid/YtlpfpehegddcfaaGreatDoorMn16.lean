import Derived.Test.YtlpfpehegddcfaaGreatDoorMn15
namespace Go.Proofs.YtlpfpehegddcfaaGreatDoor
set_option maxRecDepth 100000
set_option maxHeartbeats 64000000
open Go.RowKit
theorem formedFields_any {K:Nat→Prop} {w:World} {fs:FsT} {A:Option Addr} {c:Nat} {fv:Ty→Bool} (hF:ListF K w fs A c) (hf:∀ f∈fs,FormIs f.2.2 (fv f.2.2)) :
  Calls Tryz.prog 136 #[.slice A fs.length c] w fun e w'=>e=.returned (.bool (fieldsB (fieldsT fs fv)))∧Below w.heap.size w w':=by
 have HF:=Hd hF
 have HI:=Hd hf
 have hlf:=hF.shortF
 clear hF hf
 go_enter Tryz.func136,Tryz.ntmps136
 go_wp2_with fail
 go_loopw [7] (fun v wr=>∃ i:Nat,i≤fs.length∧v=.int .i64 (i:Int)∧(∀ j,j<i→okF (fieldsT fs fv) j=true)∧Below w.heap.size w wr) (fun v _=>fs.length - (intOf v).toNat)
 case atStart=>exact⟨0,by omega,rfl,fun j hj=>absurd hj (by omega),Below.refl _ _⟩
 case round=>
  obtain⟨i,hle,rfl,hok,hbr⟩:=hrel
  have HOK:=Hd hok
  have HBr:=Hd hbr
  clear hok
  by_cases hlt:i<fs.length
  ·have t1:decide ((i:Int)<(fs.length:Int))=true:=by simp;omega
   have wr2:wrap64 ((i:Int)+1)=((i+1:Nat):Int):=wrap_one (by omega)
   have HM:=Hd (measI hlt)
   have HLE:Hid (i+1≤fs.length):=Hd hlt
   obtain⟨b,o,hA,_,hat⟩:=HF.out.at (by omega)
   subst hA
   obtain⟨hc0,hc1,hsz,hAt⟩:=hat i hlt
   have hNO:okF (fieldsT fs fv) i=false→fieldsB (fieldsT fs fv)=false:=fun h=>allB_no (by rw[fieldsT_len];exact hlt) h
   have hFm:=HI.out _ (List.getElem_mem hlt)
   have KF:=Hd fun wx (hx:Below w.heap.size w wx)=>hFm K wx b (o+i*8+2) (hAt.later hx)
   have hokE:(i=0∧okF (fieldsT fs fv) i=(nameT fs[i].1 && decide (0≤fs[i].2.1) && decide (fs[i].2.1≤3) && fv fs[i].2.2))∨(∃ j pn,i=j+1∧w.cell? ⟨b,o+j*8,none⟩=some (.string pn)∧okF (fieldsT fs fv) i=(nameT fs[i].1 && decide (0≤fs[i].2.1) && decide (fs[i].2.1≤3) && fv fs[i].2.2 && Go.Op.bytesLess pn.toList fs[i].1.toList)):=by
    match i,hlt with
    | 0,h=>exact .inl ⟨rfl,okF_zero h⟩
    | j+1,h=>exact .inr ⟨j,_,rfl,(hat j (by omega)).1,okF_succ h⟩
   generalize hnm:fs[i].1=nm at hc0 hsz hokE
   generalize hfl:fs[i].2.1=fl at hc1 hokE
   generalize hty:fv fs[i].2.2=r at KF hokE
   have hokN:(nameT nm && decide (0≤fl) && decide (fl≤3))=false→okF (fieldsT fs fv) i=false:=fun h=>by
    rcases hokE with ⟨_,e⟩ | ⟨_,_,_,_,e⟩ <;> rw[e,h] <;> rfl
   have hcw0:=cell_stays (w:=w) (w':=wr) hbr hc0
   have hcw1:=cell_stays (w:=w) (w':=wr) hbr hc1
   have KN:=Hd fun wx=>name_prog nm wx hsz
   have HCC:Hid (∀ wx,Below wr.heap.size wr wx→wx.cell? ⟨b,o+i*8,none⟩=some (.string nm)∧wx.cell? ⟨b,o+i*8+1,none⟩=some (.int .i64 fl)):=Hd fun wx hx=>⟨cell_stays hx hcw0,cell_stays hx hcw1⟩
   clear hat hc0 hc1 hnm hfl hty hFm hAt hcw0 hcw1 hle
   cases hq:nameT nm with
   | false=>
    have HNO:Hid (fieldsB (fieldsT fs fv)=false):=Hd (hNO (hokN (by rw[hq];rfl)))
    rw[hq] at KN
    clear hNO hokN hokE hq hbr KF
    go_wp2_with fail
    refine wp_region_held_drew (S:=(fun w'=>w'.cell? ⟨b,o+i*8,none⟩=some (.string nm)∧w'.cell? ⟨b,o+i*8+1,none⟩=some (.int .i64 fl))) (by kernel_rfl) (HCC.out _ (Below.refl _ _).drew) (fun hHeld=>?_)
    refine Plan.start [0,1,2,3] ?_
    iterate 4 (refine Plan.tk (so rfl) hHeld ?_;try simp only[Act.put,pz1,pz2,pz3])
    refine Plan.done ?_
    refine wpAnyH_ready (rs:=[4]) (by kernel_rfl) (by simp) ?_
    refine AllReadyH.cons (sd (some 17) rfl) (fun K hK=>?_) AllReadyH.nil
    go_simp
    refine (KN.out _).mono ?_
    rintro e w2 ⟨rfl,hb2⟩
    have HB2:=Hd ((Below.refl wr.heap.size wr).drew.trans hb2)
    clear hb2
    go_wp2_with fail
    refine hK.out _ _ (HCC.out _ HB2.out) (fun hHeld=>?_)
    clear hK K
    try simp only[Act.put,pz1,pz2,pz3]
    refine Plan.start [5,6] ?_
    iterate 2 (refine Plan.tk (so rfl) hHeld ?_;try simp only[Act.put,pz1,pz2,pz3])
    refine Plan.done ?_
    refine Plan.start [7,8,9,10,11] ?_
    iterate 5 (refine Plan.take (v:=undef) (so rfl) (by kernel_rfl) (by kernel_rfl) (by kernel_rfl) (fun _ _ _ h=>h) (Or.inr ⟨by rfl,rfl⟩) hHeld ?_;try simp only[Act.put,pz1,pz2,pz3])
    refine Plan.done ?_
    refine Plan.start [12,13] ?_
    iterate 2 (refine Plan.tk (so rfl) hHeld ?_;try simp only[Act.put,pz1,pz2,pz3])
    refine Plan.done ?_
    refine Plan.start [14,15,16,17,18] ?_
    iterate 5 (refine Plan.take (v:=undef) (so rfl) (by kernel_rfl) (by kernel_rfl) (by kernel_rfl) (fun _ _ _ h=>h) (Or.inr ⟨by rfl,rfl⟩) hHeld ?_;try simp only[Act.put,pz1,pz2,pz3])
    refine Plan.done ?_
    refine Plan.start [19,20] ?_
    iterate 2 (refine Plan.tk (so rfl) hHeld ?_;try simp only[Act.put,pz1,pz2,pz3])
    refine Plan.done ?_
    refine Plan.start [21,22,23,24,25,26,27,28,29,30,31,32,33,34,35] ?_
    iterate 15 (refine Plan.take (v:=undef) (so rfl) (by kernel_rfl) (by kernel_rfl) (by kernel_rfl) (fun _ _ _ h=>h) (Or.inr ⟨by rfl,rfl⟩) hHeld ?_;try simp only[Act.put,pz1,pz2,pz3])
    refine Plan.done ?_
    refine Plan.start [36,37] ?_
    iterate 2 (refine Plan.tk (so rfl) hHeld ?_;try simp only[Act.put,pz1,pz2,pz3])
    refine Plan.done ?_
    refine Plan.start [38,39,40,41,42] ?_
    iterate 5 (refine Plan.take (v:=undef) (so rfl) (by kernel_rfl) (by kernel_rfl) (by kernel_rfl) (fun _ _ _ h=>h) (Or.inr ⟨by rfl,rfl⟩) hHeld ?_;try simp only[Act.put,pz1,pz2,pz3])
    refine Plan.done ?_
    refine Plan.start [43] ?_
    refine Plan.tk (so rfl) hHeld ?_
    try simp only[Act.put,pz1,pz2,pz3]
    refine Plan.done ?_
    refine wpAnyH_done (by kernel_rfl) ?_ _
    clear hHeld
    go_wp2_with fail
    go_ret
    exact⟨by rw[HNO.out];rfl,HBr.out.trans (HB2.out.mono HBr.out.size)⟩
   | true=>
    rw[hq] at KN
    by_cases hfl0:0≤fl
    ·by_cases hfl3:fl≤3
     ·have f0:decide (fl<0)=false:=by simp;omega
      have f3:decide ((3:Int)<fl)=false:=by simp;omega
      rcases hokE with ⟨rfl,he⟩ | ⟨i,pn,rfl,hpn,he⟩
      ·have HE:Hid (okF (fieldsT fs fv) 0=r):=Hd (by rw[he,hq];simp[hfl0,hfl3])
       simp only[Nat.zero_mul,Nat.add_zero] at HCC KF
       clear hNO hokN he hq hbr
       go_wp2_with fail
       refine wp_region_held_drew (S:=(fun w'=>w'.cell? ⟨b,o,none⟩=some (.string nm)∧w'.cell? ⟨b,o+1,none⟩=some (.int .i64 fl))) (by kernel_rfl) (HCC.out _ (Below.refl _ _).drew) (fun hHeld=>?_)
       refine Plan.start [0,1,2,3] ?_
       iterate 4 (refine Plan.tk (so rfl) hHeld ?_;try simp only[Act.put,pz1,pz2,pz3])
       refine Plan.done ?_
       refine wpAnyH_ready (rs:=[4]) (by kernel_rfl) (by simp) ?_
       refine AllReadyH.cons (sd (some 17) rfl) (fun K hK=>?_) AllReadyH.nil
       go_simp
       refine (KN.out _).mono ?_
       rintro e w2 ⟨rfl,hb2⟩
       have HB2:=Hd ((Below.refl wr.heap.size wr).drew.trans hb2)
       clear hb2
       go_wp2_with fail
       refine hK.out _ _ (HCC.out _ HB2.out) (fun hHeld=>?_)
       clear hK K
       try simp only[Act.put,pz1,pz2,pz3]
       refine Plan.start [5,6,7,8,9,10,11,12,13,14,15,16,17,18,19,20,21,22,23] ?_
       iterate 19 (refine Plan.tk (so rfl) hHeld ?_;try simp only[Act.put,pz1,pz2,pz3])
       refine Plan.done ?_
       refine Plan.start [24,25,26,27,28,29,30,31,32,33,34] ?_
       iterate 11 (refine Plan.take (v:=undef) (so rfl) (by kernel_rfl) (by kernel_rfl) (by kernel_rfl) (fun _ _ _ h=>h) (Or.inr ⟨by rfl,rfl⟩) hHeld ?_;try simp only[Act.put,pz1,pz2,pz3])
       refine Plan.done ?_
       refine Plan.start [35,36,37,38,39,40] ?_
       iterate 6 (refine Plan.tk (so rfl) hHeld ?_;try simp only[Act.put,pz1,pz2,pz3])
       refine Plan.done ?_
       refine wpAnyH_ready (rs:=[41]) (by kernel_rfl) (by simp) ?_
       refine AllReadyH.cons (sd (some 54) rfl) (fun K hK=>?_) AllReadyH.nil
       go_simp
       refine (KF.out _ (HBr.out.trans (HB2.out.mono HBr.out.size))).mono ?_
       rintro e w3 ⟨rfl,hb3⟩
       have HB3:=Hd (HB2.out.trans (hb3.mono HB2.out.size))
       clear hb3
       go_wp2_with fail
       refine hK.out _ _ (HCC.out _ HB3.out) (fun hHeld=>?_)
       clear hK K
       try simp only[Act.put,pz1,pz2,pz3]
       refine Plan.start [42,43] ?_
       iterate 2 (refine Plan.tk (so rfl) hHeld ?_;try simp only[Act.put,pz1,pz2,pz3])
       refine Plan.done ?_
       refine wpAnyH_done (by kernel_rfl) ?_ _
       clear hHeld
       cases r with
       | false=>
        have HNO:Hid (fieldsB (fieldsT fs fv)=false):=Hd (allB_no (by rw[fieldsT_len];exact HLE.out) HE.out)
        go_wp2_with fail
        go_ret
        exact⟨by rw[HNO.out];rfl,HBr.out.trans (HB3.out.mono HBr.out.size)⟩
       | true=>
        go_wp2_with fail
        refine⟨⟨0+1,HLE.out,by first | rfl | rw[wr2],okU_more HOK.out HE.out,HBr.out.trans (HB3.out.mono HBr.out.size)⟩,?_⟩
        first | exact HM.out | (rw[wr2];exact HM.out)
      ·have hpw:=cell_stays (w:=w) (w':=wr) hbr hpn
       have HCD:Hid (∀ wx,Below wr.heap.size wr wx→wx.cell? ⟨b,o+i*8,none⟩=some (.string pn)):=Hd fun wx hx=>cell_stays hx hpw
       have wr1:wrap64 (((i+1:Nat):Int) - 1)=((i:Nat):Int):=by rw[wrap_in (by omega) (by omega)];omega
       have wr1':IntKind.i64.wrap (((i+1:Nat):Int) - 1)=((i:Nat):Int):=by
        have e:IntKind.i64.wrap (((i+1:Nat):Int) - 1)=wrap64 (((i+1:Nat):Int) - 1):=by unfold wrap64;exact IntKind.wrap_i64 _
        rw[e,wr1]
       have wr3:wrap64 (i:Int)=(i:Int):=wrap_in (by omega) (by omega)
       have wr3':IntKind.i64.wrap (i:Int)=(i:Int):=by
        have e:IntKind.i64.wrap (i:Int)=wrap64 (i:Int):=by unfold wrap64;exact IntKind.wrap_i64 _
        rw[e,wr3]
       have i2:(0:Int)≤(i:Int):=by omega
       have i3:(i:Int)<(fs.length:Int):=by omega
       have i4:(0:Int)<(i:Int)+1:=by omega
       cases hbl:Go.Op.bytesLess pn.toList nm.toList with
       | true=>
        have HE:Hid (okF (fieldsT fs fv) (i+1)=r):=Hd (by rw[he,hq,hbl];simp[hfl0,hfl3])
        clear hNO hokN he hq hbr hpn hpw
        go_wp2_with fail
        refine wp_region_held_drew (S:=(fun w'=>(w'.cell? ⟨b,o+(i+1)*8,none⟩=some (.string nm)∧w'.cell? ⟨b,o+(i+1)*8+1,none⟩=some (.int .i64 fl))∧w'.cell? ⟨b,o+i*8,none⟩=some (.string pn))) (by kernel_rfl) (⟨HCC.out _ (Below.refl _ _).drew,HCD.out _ (Below.refl _ _).drew⟩) (fun hHeld=>?_)
        refine Plan.start [0,1,2,3] ?_
        iterate 4 (refine Plan.tk (so rfl) hHeld ?_;try simp only[Act.put,pz1,pz2,pz3])
        refine Plan.done ?_
        refine wpAnyH_ready (rs:=[4]) (by kernel_rfl) (by simp) ?_
        refine AllReadyH.cons (sd (some 17) rfl) (fun K hK=>?_) AllReadyH.nil
        go_simp
        refine (KN.out _).mono ?_
        rintro e w2 ⟨rfl,hb2⟩
        have HB2:=Hd ((Below.refl wr.heap.size wr).drew.trans hb2)
        clear hb2
        go_wp2_with fail
        refine hK.out _ _ (⟨HCC.out _ HB2.out,HCD.out _ HB2.out⟩) (fun hHeld=>?_)
        clear hK K
        try simp only[Act.put,pz1,pz2,pz3]
        refine Plan.start [5,6,7,8,9,10,11,12,13,14,15,16,17,18,19,20,21,22,23,24,25,26,27,28,29,30,31,32,33,34,35,36,37,38,39,40] ?_
        iterate 36 (refine Plan.tk (so rfl) hHeld ?_;try simp only[Act.put,pz1,pz2,pz3])
        refine Plan.done ?_
        refine wpAnyH_ready (rs:=[41]) (by kernel_rfl) (by simp) ?_
        refine AllReadyH.cons (sd (some 54) rfl) (fun K hK=>?_) AllReadyH.nil
        go_simp
        refine (KF.out _ (HBr.out.trans (HB2.out.mono HBr.out.size))).mono ?_
        rintro e w3 ⟨rfl,hb3⟩
        have HB3:=Hd (HB2.out.trans (hb3.mono HB2.out.size))
        clear hb3
        go_wp2_with fail
        refine hK.out _ _ (⟨HCC.out _ HB3.out,HCD.out _ HB3.out⟩) (fun hHeld=>?_)
        clear hK K
        try simp only[Act.put,pz1,pz2,pz3]
        refine Plan.start [42,43] ?_
        iterate 2 (refine Plan.tk (so rfl) hHeld ?_;try simp only[Act.put,pz1,pz2,pz3])
        refine Plan.done ?_
        refine wpAnyH_done (by kernel_rfl) ?_ _
        clear hHeld
        cases r with
        | false=>
         have HNO:Hid (fieldsB (fieldsT fs fv)=false):=Hd (allB_no (by rw[fieldsT_len];exact HLE.out) HE.out)
         go_wp2_with fail
         go_ret
         exact⟨by rw[HNO.out];rfl,HBr.out.trans (HB3.out.mono HBr.out.size)⟩
        | true=>
         go_wp2_with fail
         refine⟨⟨(i+1)+1,HLE.out,by first | rfl | rw[wr2],okU_more HOK.out HE.out,HBr.out.trans (HB3.out.mono HBr.out.size)⟩,?_⟩
         first | exact HM.out | (rw[wr2];exact HM.out)
       | false=>
        have HNO:Hid (fieldsB (fieldsT fs fv)=false):=Hd (hNO (by rw[he,hbl];simp))
        clear hNO hokN he hq hbr hpn hpw KF
        go_wp2_with fail
        refine wp_region_held_drew (S:=(fun w'=>(w'.cell? ⟨b,o+(i+1)*8,none⟩=some (.string nm)∧w'.cell? ⟨b,o+(i+1)*8+1,none⟩=some (.int .i64 fl))∧w'.cell? ⟨b,o+i*8,none⟩=some (.string pn))) (by kernel_rfl) (⟨HCC.out _ (Below.refl _ _).drew,HCD.out _ (Below.refl _ _).drew⟩) (fun hHeld=>?_)
        refine Plan.start [0,1,2,3] ?_
        iterate 4 (refine Plan.tk (so rfl) hHeld ?_;try simp only[Act.put,pz1,pz2,pz3])
        refine Plan.done ?_
        refine wpAnyH_ready (rs:=[4]) (by kernel_rfl) (by simp) ?_
        refine AllReadyH.cons (sd (some 17) rfl) (fun K hK=>?_) AllReadyH.nil
        go_simp
        refine (KN.out _).mono ?_
        rintro e w2 ⟨rfl,hb2⟩
        have HB2:=Hd ((Below.refl wr.heap.size wr).drew.trans hb2)
        clear hb2
        go_wp2_with fail
        refine hK.out _ _ (⟨HCC.out _ HB2.out,HCD.out _ HB2.out⟩) (fun hHeld=>?_)
        clear hK K
        try simp only[Act.put,pz1,pz2,pz3]
        refine Plan.start [5,6,7,8,9,10,11,12,13,14,15,16,17,18,19,20,21,22,23,24,25,26,27,28,29,30,31,32,33,34,35,36,37] ?_
        iterate 33 (refine Plan.tk (so rfl) hHeld ?_;try simp only[Act.put,pz1,pz2,pz3])
        refine Plan.done ?_
        refine Plan.start [38,39,40,41,42] ?_
        iterate 5 (refine Plan.take (v:=undef) (so rfl) (by kernel_rfl) (by kernel_rfl) (by kernel_rfl) (fun _ _ _ h=>h) (Or.inr ⟨by rfl,rfl⟩) hHeld ?_;try simp only[Act.put,pz1,pz2,pz3])
        refine Plan.done ?_
        refine Plan.start [43] ?_
        refine Plan.tk (so rfl) hHeld ?_
        try simp only[Act.put,pz1,pz2,pz3]
        refine Plan.done ?_
        refine wpAnyH_done (by kernel_rfl) ?_ _
        clear hHeld
        go_wp2_with fail
        go_ret
        exact⟨by rw[HNO.out];rfl,HBr.out.trans (HB2.out.mono HBr.out.size)⟩
     ·have HNO:Hid (fieldsB (fieldsT fs fv)=false):=Hd (hNO (hokN (by simp[hfl3])))
      have f0:decide (fl<0)=false:=by simp;omega
      have f3:decide ((3:Int)<fl)=true:=by simp;omega
      clear hNO hokN hokE hq hbr KF
      go_wp2_with fail
      refine wp_region_held_drew (S:=(fun w'=>w'.cell? ⟨b,o+i*8,none⟩=some (.string nm)∧w'.cell? ⟨b,o+i*8+1,none⟩=some (.int .i64 fl))) (by kernel_rfl) (HCC.out _ (Below.refl _ _).drew) (fun hHeld=>?_)
      refine Plan.start [0,1,2,3] ?_
      iterate 4 (refine Plan.tk (so rfl) hHeld ?_;try simp only[Act.put,pz1,pz2,pz3])
      refine Plan.done ?_
      refine wpAnyH_ready (rs:=[4]) (by kernel_rfl) (by simp) ?_
      refine AllReadyH.cons (sd (some 17) rfl) (fun K hK=>?_) AllReadyH.nil
      go_simp
      refine (KN.out _).mono ?_
      rintro e w2 ⟨rfl,hb2⟩
      have HB2:=Hd ((Below.refl wr.heap.size wr).drew.trans hb2)
      clear hb2
      go_wp2_with fail
      refine hK.out _ _ (HCC.out _ HB2.out) (fun hHeld=>?_)
      clear hK K
      try simp only[Act.put,pz1,pz2,pz3]
      refine Plan.start [5,6,7,8,9,10,11,12,13,14,15,16,17,18,19,20] ?_
      iterate 16 (refine Plan.tk (so rfl) hHeld ?_;try simp only[Act.put,pz1,pz2,pz3])
      refine Plan.done ?_
      refine Plan.start [21,22,23,24,25,26,27,28,29,30,31,32,33,34,35] ?_
      iterate 15 (refine Plan.take (v:=undef) (so rfl) (by kernel_rfl) (by kernel_rfl) (by kernel_rfl) (fun _ _ _ h=>h) (Or.inr ⟨by rfl,rfl⟩) hHeld ?_;try simp only[Act.put,pz1,pz2,pz3])
      refine Plan.done ?_
      refine Plan.start [36,37] ?_
      iterate 2 (refine Plan.tk (so rfl) hHeld ?_;try simp only[Act.put,pz1,pz2,pz3])
      refine Plan.done ?_
      refine Plan.start [38,39,40,41,42] ?_
      iterate 5 (refine Plan.take (v:=undef) (so rfl) (by kernel_rfl) (by kernel_rfl) (by kernel_rfl) (fun _ _ _ h=>h) (Or.inr ⟨by rfl,rfl⟩) hHeld ?_;try simp only[Act.put,pz1,pz2,pz3])
      refine Plan.done ?_
      refine Plan.start [43] ?_
      refine Plan.tk (so rfl) hHeld ?_
      try simp only[Act.put,pz1,pz2,pz3]
      refine Plan.done ?_
      refine wpAnyH_done (by kernel_rfl) ?_ _
      clear hHeld
      go_wp2_with fail
      go_ret
      exact⟨by rw[HNO.out];rfl,HBr.out.trans (HB2.out.mono HBr.out.size)⟩
    ·have HNO:Hid (fieldsB (fieldsT fs fv)=false):=Hd (hNO (hokN (by simp[hfl0])))
     have f0:decide (fl<0)=true:=by simp;omega
     clear hNO hokN hokE hq hbr KF
     go_wp2_with fail
     refine wp_region_held_drew (S:=(fun w'=>w'.cell? ⟨b,o+i*8,none⟩=some (.string nm)∧w'.cell? ⟨b,o+i*8+1,none⟩=some (.int .i64 fl))) (by kernel_rfl) (HCC.out _ (Below.refl _ _).drew) (fun hHeld=>?_)
     refine Plan.start [0,1,2,3] ?_
     iterate 4 (refine Plan.tk (so rfl) hHeld ?_;try simp only[Act.put,pz1,pz2,pz3])
     refine Plan.done ?_
     refine wpAnyH_ready (rs:=[4]) (by kernel_rfl) (by simp) ?_
     refine AllReadyH.cons (sd (some 17) rfl) (fun K hK=>?_) AllReadyH.nil
     go_simp
     refine (KN.out _).mono ?_
     rintro e w2 ⟨rfl,hb2⟩
     have HB2:=Hd ((Below.refl wr.heap.size wr).drew.trans hb2)
     clear hb2
     go_wp2_with fail
     refine hK.out _ _ (HCC.out _ HB2.out) (fun hHeld=>?_)
     clear hK K
     try simp only[Act.put,pz1,pz2,pz3]
     refine Plan.start [5,6,7,8,9,10,11,12,13] ?_
     iterate 9 (refine Plan.tk (so rfl) hHeld ?_;try simp only[Act.put,pz1,pz2,pz3])
     refine Plan.done ?_
     refine Plan.start [14,15,16,17,18] ?_
     iterate 5 (refine Plan.take (v:=undef) (so rfl) (by kernel_rfl) (by kernel_rfl) (by kernel_rfl) (fun _ _ _ h=>h) (Or.inr ⟨by rfl,rfl⟩) hHeld ?_;try simp only[Act.put,pz1,pz2,pz3])
     refine Plan.done ?_
     refine Plan.start [19,20] ?_
     iterate 2 (refine Plan.tk (so rfl) hHeld ?_;try simp only[Act.put,pz1,pz2,pz3])
     refine Plan.done ?_
     refine Plan.start [21,22,23,24,25,26,27,28,29,30,31,32,33,34,35] ?_
     iterate 15 (refine Plan.take (v:=undef) (so rfl) (by kernel_rfl) (by kernel_rfl) (by kernel_rfl) (fun _ _ _ h=>h) (Or.inr ⟨by rfl,rfl⟩) hHeld ?_;try simp only[Act.put,pz1,pz2,pz3])
     refine Plan.done ?_
     refine Plan.start [36,37] ?_
     iterate 2 (refine Plan.tk (so rfl) hHeld ?_;try simp only[Act.put,pz1,pz2,pz3])
     refine Plan.done ?_
     refine Plan.start [38,39,40,41,42] ?_
     iterate 5 (refine Plan.take (v:=undef) (so rfl) (by kernel_rfl) (by kernel_rfl) (by kernel_rfl) (fun _ _ _ h=>h) (Or.inr ⟨by rfl,rfl⟩) hHeld ?_;try simp only[Act.put,pz1,pz2,pz3])
     refine Plan.done ?_
     refine Plan.start [43] ?_
     refine Plan.tk (so rfl) hHeld ?_
     try simp only[Act.put,pz1,pz2,pz3]
     refine Plan.done ?_
     refine wpAnyH_done (by kernel_rfl) ?_ _
     clear hHeld
     go_wp2_with fail
     go_ret
     exact⟨by rw[HNO.out];rfl,HBr.out.trans (HB2.out.mono HBr.out.size)⟩
  ·have t1:decide ((i:Int)<(fs.length:Int))=false:=by simp;omega
   have HYES:Hid (fieldsB (fieldsT fs fv)=true):=Hd (range_all.2 fun j hj=>HOK.out j (by rw[fieldsT_len] at hj;omega))
   clear hle hbr
   go_wp2_with fail
   go_ret
   exact⟨by rw[HYES.out];rfl,HBr.out⟩
theorem put_there {F:List Ty} {t:Ty} (hA:Asc F) {j:Nat} (hj:j<F.length) (h0:ordT F[j] t=0):insT t F=F:=by
 have e:=ordT_zero.1 h0
 refine asc_unique (asc_insT t hA) hA fun x=>?_
 rw[mem_insT]
 constructor
 ·rintro (rfl | h)
  ·rw[←e];exact List.getElem_mem hj
  ·exact h
 ·exact .inr
theorem lt_put {F:List Ty} {t:Ty} {k:Nat} (hA:Asc F) (hlt:∀ j (h:j<F.length),j+1=k→ordT F[j] t = -1) {i:Nat} (hi:i<F.length) (hik:i<k) (hk:k≤F.length):ordT F[i] t = -1:=by
 rcases Nat.lt_or_ge (i+1) k with h | h
 ·have h1:=hlt (k - 1) (by omega) (by omega)
  have h2:=List.pairwise_iff_getElem.1 hA i (k - 1) hi (by omega) (by omega)
  exact ordT_trans h2 h1
 ·exact hlt i hi (by omega)
theorem put_new {F:List Ty} {t:Ty} {k:Nat} (hA:Asc F) (hk:k≤F.length) (hgt:∀ j (h:j<F.length),k≤j→ordT F[j] t=1) (hlt:∀ j (h:j<F.length),j+1=k→ordT F[j] t = -1):insT t F=F.take k++t :: F.drop k:=by
 refine asc_unique (asc_insT t hA) ?_ fun x=>?_
 ·have hA2:=hA
  unfold Asc at hA2
  rw[←List.take_append_drop k F,List.pairwise_append] at hA2
  obtain⟨h1,h2,h3⟩:=hA2
  refine List.pairwise_append.2 ⟨h1,List.pairwise_cons.2 ⟨fun b hb=>?_,h2⟩,fun a ha b hb=>?_⟩
  ·obtain⟨j,hj,rfl⟩:=List.getElem_of_mem hb
   rw[List.getElem_drop]
   exact ordT_gt (hgt _ (by simp at hj;omega) (by omega))
  ·rcases List.mem_cons.1 hb with rfl | hb
   ·obtain⟨j,hj,rfl⟩:=List.getElem_of_mem ha
    rw[List.getElem_take]
    exact lt_put hA hlt (by simp at hj;omega) (by simp at hj;omega) hk
   ·exact h3 a ha b hb
 ·rw[mem_insT,List.mem_append,List.mem_cons]
  constructor
  ·rintro (h | h)
   ·exact .inr (.inl h)
   ·rw[←List.take_append_drop k F] at h
    rcases List.mem_append.1 h with h | h
    ·exact .inl h
    ·exact .inr (.inr h)
  ·rintro (h | h | h)
   ·exact .inr (List.mem_of_mem_take h)
   ·exact .inl h
   ·exact .inr (List.mem_of_mem_drop h)
theorem InT.set {K:Nat→Prop} {w0 w:World} {g c:Nat} {a b:List Ty} {x t:Ty} {cs:List Value} (h:InT K w0 w g c (a++x :: b)) (ht:RepT K w0 t cs):InT K w0 (w.setCells g (a.length*6) cs) g c (a++t :: b):=by
 have e:(a++x :: b).drop a.length=x :: b:=List.drop_left
 have h1:InT K w0 w g c (a++(a++x :: b).drop a.length):=by rw[e];exact h
 have h2:=h1.put (by simp) ht
 have e2:(a++x :: b).drop (a++[t]).length=b:=by
  rw[List.length_append,List.length_singleton,←List.drop_drop,e];rfl
 rw[e2,List.append_assoc] at h2
 exact h2
theorem InT.out {K:Nat→Prop} {w0 w:World} {g c:Nat} {ts:List Ty} (h:InT K w0 w g c ts) (hg:w0.heap.size≤g):OutT K w0 w (.slice (some ⟨g,0,none⟩) ts.length c) ts:=by
 obtain⟨cur,h1,h2⟩:=h.blk
 have hle:=h.le
 refine⟨cur.toList.take (ts.length*6),⟨by simp;omega,.inr ⟨g,c,cur,rfl,hg,h1,hle,h.mx,h2,rfl⟩⟩,fun i hi=>?_⟩
 obtain⟨cs,h3,h4⟩:=h.reps i ts[i] (List.getElem?_eq_getElem hi)
 refine⟨cs,h3,fun j u hj=>?_⟩
 have h5:=h4 j u hj
 have hj6:=(List.getElem?_eq_some_iff.1 hj).1
 rw[h3.six] at hj6
 rw[cell_of_row _ _ _ _ _ _ h1] at h5
 rw[List.getElem?_take,if_pos (by omega)]
 simpa using h5
end Go.Proofs.YtlpfpehegddcfaaGreatDoor
