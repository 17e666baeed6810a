import Derived.Test.YtlpfpehegddcfaaGreatDoorMn25
namespace Go.Proofs.YtlpfpehegddcfaaGreatDoor
set_option maxRecDepth 100000
set_option maxHeartbeats 64000000
open Go.RowKit
theorem form_15t (t:ByteArray) (n:Int) (ps:List Ty) (fs:FsT) (vs:VsT) (hp:∀ p∈ps,FormR p) (hf:∀ f∈fs,FormR f.2.2) (hv:∀ v∈vs,∀ b∈v.2,FormR b) (hnf:fs.length=0) (hnv:vs.length=0) (hpa:ps.all formT=true) (a0:UInt8) (l0:List UInt8) (ht0:t.toList=a0 :: l0):FormR (.mk 15 t n ps fs vs):=by
 refine form_pre 15 t n ps fs vs hp hf hv fun K w A c A' c' A'' c'' w1 h=>?_
 obtain⟨HXC,KAll,KPl,KNm,KOb,KBi,KOv,HREP,HCN,HBZ,HB,HS1,HX0,HW1,hlp,hlf,hlv⟩:=h
 clear hp hf hv
 have HVal:Hid (formT (.mk 15 t n ps fs vs)=false):=Hd (by
  rw[formT_mk,show shapeK 15=⟨false,false,false,false,2,-1,true⟩ from rfl,hpa]
  unfold fitsB selfB
  simp[hnf,hnv,ht0])
 obtain⟨f1,f2,f3,f4⟩:=no4 (m:=fs.length) (n:=vs.length) (by omega) (by omega)
 rw[hpa] at KAll
 have ep:(t.toList == [] && n == 0)=false:=by rw[ht0];rfl
 rw[ep] at KPl
 try clear hnf
 try clear hnv
 try clear hnp
 try clear hn0
 try clear hpa
 try clear ht0
 go_enter Tryz.func38,Tryz.ntmps38
 go_upto_region 1 with fail
 rw[←HW1.out]
 obtain⟨x0,x1,x2,x3,x4,x5⟩:=HXC.out _ HB.out
 go_wp2_with fail
 refine (KAll.out _ HB.out).mono ?_
 rintro e w2 ⟨rfl,hb⟩
 have HB1:=Hd (HB.out.trans (hb.mono HB.out.size))
 clear hb
 clear x0 x1 x2 x3 x4 x5
 obtain⟨x0,x1,x2,x3,x4,x5⟩:=HXC.out _ HB1.out
 go_wp2_with fail
 clear x0 x1 x2 x3 x4 x5
 refine wp_region_held_drew (S:=(fun w'=>w'.cell? ⟨w.heap.size,0,none⟩=some (.int .i64 15)∧w'.cell? ⟨w.heap.size,1,none⟩=some (.string t)∧w'.cell? ⟨w.heap.size,2,none⟩=some (.int .i64 n)∧w'.cell? ⟨w.heap.size,3,none⟩=some (.slice A ps.length c)∧w'.cell? ⟨w.heap.size,4,none⟩=some (.slice A' fs.length c')∧w'.cell? ⟨w.heap.size,5,none⟩=some (.slice A'' vs.length c''))) (by kernel_rfl) (HXC.out _ HB1.out.drew) (fun hHeld=>?_)
 refine Plan.start [0] ?_
 refine Plan.tk (so rfl) hHeld ?_
 try simp only[Act.put,pz1,pz2,pz3]
 refine Plan.done ?_
 refine wpAnyH_ready (rs:=[1]) (by kernel_rfl) (by simp) ?_
 refine AllReadyH.cons (sd (some 115) rfl) (fun K hK=>?_) AllReadyH.nil
 go_simp
 refine (KPl.out _).mono ?_
 rintro e w4 ⟨rfl,hb⟩
 have HB2:=Hd (HB1.out.drew.trans (hb.mono HB1.out.drew.size))
 clear hb
 go_wp2_with fail
 refine hK.out _ _ (HXC.out _ HB2.out) (fun hHeld=>?_)
 clear hK K
 try simp only[Act.put,pz1,pz2,pz3]
 refine Plan.start [2] ?_
 refine Plan.tk (so rfl) hHeld ?_
 try simp only[Act.put,pz1,pz2,pz3]
 refine Plan.done ?_
 refine Plan.start [3,4] ?_
 iterate 2 (refine Plan.take (v:=undef) (so rfl) (by kernel_rfl) (by kernel_rfl) (by kernel_rfl) (fun _ _ _ h=>h) (Or.inr ⟨by rfl,rfl⟩) hHeld ?_;try simp only[Act.put,pz1,pz2,pz3])
 refine Plan.done ?_
 refine Plan.start [5,6] ?_
 iterate 2 (refine Plan.tk (so rfl) hHeld ?_;try simp only[Act.put,pz1,pz2,pz3])
 refine Plan.done ?_
 refine Plan.start [7,8,9,10,11,12] ?_
 iterate 6 (refine Plan.take (v:=undef) (so rfl) (by kernel_rfl) (by kernel_rfl) (by kernel_rfl) (fun _ _ _ h=>h) (Or.inr ⟨by rfl,rfl⟩) hHeld ?_;try simp only[Act.put,pz1,pz2,pz3])
 refine Plan.done ?_
 refine Plan.start [13,14] ?_
 iterate 2 (refine Plan.tk (so rfl) hHeld ?_;try simp only[Act.put,pz1,pz2,pz3])
 refine Plan.done ?_
 refine wpAnyH_done (by kernel_rfl) ?_ _
 clear hHeld
 go_wp2_with fail
 go_ret
 exact⟨by rw[HVal.out];rfl,HBZ.out.trans (HB2.out.mono HBZ.out.size)⟩
theorem form_15n (t:ByteArray) (n:Int) (ps:List Ty) (fs:FsT) (vs:VsT) (hp:∀ p∈ps,FormR p) (hf:∀ f∈fs,FormR f.2.2) (hv:∀ v∈vs,∀ b∈v.2,FormR b) (hnf:fs.length=0) (hnv:vs.length=0) (hpa:ps.all formT=true) (ht0:t.toList=[]) (hn0:n≠0):FormR (.mk 15 t n ps fs vs):=by
 refine form_pre 15 t n ps fs vs hp hf hv fun K w A c A' c' A'' c'' w1 h=>?_
 obtain⟨HXC,KAll,KPl,KNm,KOb,KBi,KOv,HREP,HCN,HBZ,HB,HS1,HX0,HW1,hlp,hlf,hlv⟩:=h
 clear hp hf hv
 have HVal:Hid (formT (.mk 15 t n ps fs vs)=false):=Hd (by
  rw[formT_mk,show shapeK 15=⟨false,false,false,false,2,-1,true⟩ from rfl,hpa]
  unfold fitsB selfB
  simp[hnf,hnv,ht0,hn0])
 obtain⟨f1,f2,f3,f4⟩:=no4 (m:=fs.length) (n:=vs.length) (by omega) (by omega)
 rw[hpa] at KAll
 have ep:(t.toList == [] && n == 0)=false:=by rw[ht0];simpa using hn0
 rw[ep] at KPl
 try clear hnf
 try clear hnv
 try clear hnp
 try clear hn0
 try clear hpa
 try clear ht0
 go_enter Tryz.func38,Tryz.ntmps38
 go_upto_region 1 with fail
 rw[←HW1.out]
 obtain⟨x0,x1,x2,x3,x4,x5⟩:=HXC.out _ HB.out
 go_wp2_with fail
 refine (KAll.out _ HB.out).mono ?_
 rintro e w2 ⟨rfl,hb⟩
 have HB1:=Hd (HB.out.trans (hb.mono HB.out.size))
 clear hb
 clear x0 x1 x2 x3 x4 x5
 obtain⟨x0,x1,x2,x3,x4,x5⟩:=HXC.out _ HB1.out
 go_wp2_with fail
 clear x0 x1 x2 x3 x4 x5
 refine wp_region_held_drew (S:=(fun w'=>w'.cell? ⟨w.heap.size,0,none⟩=some (.int .i64 15)∧w'.cell? ⟨w.heap.size,1,none⟩=some (.string t)∧w'.cell? ⟨w.heap.size,2,none⟩=some (.int .i64 n)∧w'.cell? ⟨w.heap.size,3,none⟩=some (.slice A ps.length c)∧w'.cell? ⟨w.heap.size,4,none⟩=some (.slice A' fs.length c')∧w'.cell? ⟨w.heap.size,5,none⟩=some (.slice A'' vs.length c''))) (by kernel_rfl) (HXC.out _ HB1.out.drew) (fun hHeld=>?_)
 refine Plan.start [0] ?_
 refine Plan.tk (so rfl) hHeld ?_
 try simp only[Act.put,pz1,pz2,pz3]
 refine Plan.done ?_
 refine wpAnyH_ready (rs:=[1]) (by kernel_rfl) (by simp) ?_
 refine AllReadyH.cons (sd (some 115) rfl) (fun K hK=>?_) AllReadyH.nil
 go_simp
 refine (KPl.out _).mono ?_
 rintro e w4 ⟨rfl,hb⟩
 have HB2:=Hd (HB1.out.drew.trans (hb.mono HB1.out.drew.size))
 clear hb
 go_wp2_with fail
 refine hK.out _ _ (HXC.out _ HB2.out) (fun hHeld=>?_)
 clear hK K
 try simp only[Act.put,pz1,pz2,pz3]
 refine Plan.start [2] ?_
 refine Plan.tk (so rfl) hHeld ?_
 try simp only[Act.put,pz1,pz2,pz3]
 refine Plan.done ?_
 refine Plan.start [3,4] ?_
 iterate 2 (refine Plan.take (v:=undef) (so rfl) (by kernel_rfl) (by kernel_rfl) (by kernel_rfl) (fun _ _ _ h=>h) (Or.inr ⟨by rfl,rfl⟩) hHeld ?_;try simp only[Act.put,pz1,pz2,pz3])
 refine Plan.done ?_
 refine Plan.start [5,6] ?_
 iterate 2 (refine Plan.tk (so rfl) hHeld ?_;try simp only[Act.put,pz1,pz2,pz3])
 refine Plan.done ?_
 refine Plan.start [7,8,9,10,11,12] ?_
 iterate 6 (refine Plan.take (v:=undef) (so rfl) (by kernel_rfl) (by kernel_rfl) (by kernel_rfl) (fun _ _ _ h=>h) (Or.inr ⟨by rfl,rfl⟩) hHeld ?_;try simp only[Act.put,pz1,pz2,pz3])
 refine Plan.done ?_
 refine Plan.start [13,14] ?_
 iterate 2 (refine Plan.tk (so rfl) hHeld ?_;try simp only[Act.put,pz1,pz2,pz3])
 refine Plan.done ?_
 refine wpAnyH_done (by kernel_rfl) ?_ _
 clear hHeld
 go_wp2_with fail
 go_ret
 exact⟨by rw[HVal.out];rfl,HBZ.out.trans (HB2.out.mono HBZ.out.size)⟩
theorem form_15p (t:ByteArray) (n:Int) (ps:List Ty) (fs:FsT) (vs:VsT) (hp:∀ p∈ps,FormR p) (hf:∀ f∈fs,FormR f.2.2) (hv:∀ v∈vs,∀ b∈v.2,FormR b) (hnf:fs.length=0) (hnv:vs.length=0) (hpa:ps.all formT=true) (ht0:t.toList=[]) (hn0:n=0) (hnp:¬ 2≤ps.length):FormR (.mk 15 t n ps fs vs):=by
 refine form_pre 15 t n ps fs vs hp hf hv fun K w A c A' c' A'' c'' w1 h=>?_
 obtain⟨HXC,KAll,KPl,KNm,KOb,KBi,KOv,HREP,HCN,HBZ,HB,HS1,HX0,HW1,hlp,hlf,hlv⟩:=h
 clear hp hf hv
 have HVal:Hid (formT (.mk 15 t n ps fs vs)=false):=Hd (by
  rw[formT_mk,show shapeK 15=⟨false,false,false,false,2,-1,true⟩ from rfl,hpa]
  unfold fitsB selfB
  simp[hnf,hnv,ht0,hn0]
  omega)
 obtain⟨f1,f2,f3,f4⟩:=no4 (m:=fs.length) (n:=vs.length) (by omega) (by omega)
 rw[hpa] at KAll
 have ep:(t.toList == [] && n == 0)=true:=by rw[ht0,hn0];rfl
 rw[ep] at KPl
 have p1:decide ((2:Int)≤(ps.length:Int))=false:=decide_eq_false (by omega)
 have p2:decide (2≤ps.length)=false:=decide_eq_false (by omega)
 try clear hnf
 try clear hnv
 try clear hnp
 try clear hn0
 try clear hpa
 try clear ht0
 go_enter Tryz.func38,Tryz.ntmps38
 go_upto_region 1 with fail
 rw[←HW1.out]
 obtain⟨x0,x1,x2,x3,x4,x5⟩:=HXC.out _ HB.out
 go_wp2_with fail
 refine (KAll.out _ HB.out).mono ?_
 rintro e w2 ⟨rfl,hb⟩
 have HB1:=Hd (HB.out.trans (hb.mono HB.out.size))
 clear hb
 clear x0 x1 x2 x3 x4 x5
 obtain⟨x0,x1,x2,x3,x4,x5⟩:=HXC.out _ HB1.out
 go_wp2_with fail
 clear x0 x1 x2 x3 x4 x5
 refine wp_region_held_drew (S:=(fun w'=>w'.cell? ⟨w.heap.size,0,none⟩=some (.int .i64 15)∧w'.cell? ⟨w.heap.size,1,none⟩=some (.string t)∧w'.cell? ⟨w.heap.size,2,none⟩=some (.int .i64 n)∧w'.cell? ⟨w.heap.size,3,none⟩=some (.slice A ps.length c)∧w'.cell? ⟨w.heap.size,4,none⟩=some (.slice A' fs.length c')∧w'.cell? ⟨w.heap.size,5,none⟩=some (.slice A'' vs.length c''))) (by kernel_rfl) (HXC.out _ HB1.out.drew) (fun hHeld=>?_)
 refine Plan.start [0] ?_
 refine Plan.tk (so rfl) hHeld ?_
 try simp only[Act.put,pz1,pz2,pz3]
 refine Plan.done ?_
 refine wpAnyH_ready (rs:=[1]) (by kernel_rfl) (by simp) ?_
 refine AllReadyH.cons (sd (some 115) rfl) (fun K hK=>?_) AllReadyH.nil
 go_simp
 refine (KPl.out _).mono ?_
 rintro e w4 ⟨rfl,hb⟩
 have HB2:=Hd (HB1.out.drew.trans (hb.mono HB1.out.drew.size))
 clear hb
 go_wp2_with fail
 refine hK.out _ _ (HXC.out _ HB2.out) (fun hHeld=>?_)
 clear hK K
 try simp only[Act.put,pz1,pz2,pz3]
 refine Plan.start [2,3,4,5,6] ?_
 iterate 5 (refine Plan.tk (so rfl) hHeld ?_;try simp only[Act.put,pz1,pz2,pz3])
 refine Plan.done ?_
 refine Plan.start [7,8,9,10,11,12] ?_
 iterate 6 (refine Plan.take (v:=undef) (so rfl) (by kernel_rfl) (by kernel_rfl) (by kernel_rfl) (fun _ _ _ h=>h) (Or.inr ⟨by rfl,rfl⟩) hHeld ?_;try simp only[Act.put,pz1,pz2,pz3])
 refine Plan.done ?_
 refine Plan.start [13,14] ?_
 iterate 2 (refine Plan.tk (so rfl) hHeld ?_;try simp only[Act.put,pz1,pz2,pz3])
 refine Plan.done ?_
 refine wpAnyH_done (by kernel_rfl) ?_ _
 clear hHeld
 go_wp2_with fail
 go_ret
 exact⟨by rw[HVal.out];rfl,HBZ.out.trans (HB2.out.mono HBZ.out.size)⟩
theorem form_15y (t:ByteArray) (n:Int) (ps:List Ty) (fs:FsT) (vs:VsT) (hp:∀ p∈ps,FormR p) (hf:∀ f∈fs,FormR f.2.2) (hv:∀ v∈vs,∀ b∈v.2,FormR b) (hnf:fs.length=0) (hnv:vs.length=0) (hpa:ps.all formT=true) (ht0:t.toList=[]) (hn0:n=0) (hnp:2≤ps.length):FormR (.mk 15 t n ps fs vs):=by
 refine form_pre 15 t n ps fs vs hp hf hv fun K w A c A' c' A'' c'' w1 h=>?_
 obtain⟨HXC,KAll,KPl,KNm,KOb,KBi,KOv,HREP,HCN,HBZ,HB,HS1,HX0,HW1,hlp,hlf,hlv⟩:=h
 clear hp hf hv
 have hform:∀ x∈ps,formT x=true:=List.all_eq_true.1 hpa
 have hflat:=flatU_cnt ps
 have hcn':cntL ps≤1000000:=by have:=HCN.out;omega
 have hrl:=RepT.low _ _ HREP.out
 obtain⟨B,d,B',d',B'',d'',he,-,hLl,-,-⟩:=hrl.inv
 have hAB:A=B∧c=d:=by simp only[cells6T,List.cons.injEq,Value.slice.injEq] at he;exact⟨he.2.2.2.1.1,he.2.2.2.1.2.2⟩
 obtain⟨rfl,rfl⟩:=hAB
 have KUn:=Hd fun wx (hx:Below w1.heap.size w1 wx)=>union_ref (hLl.later (HBZ.out.trans (hx.mono HBZ.out.size))) (fun b hb=>by have:=HBZ.out.size;have:=hx.size;omega) (fun x hx2=>by have h1:=names_cnt x;have h2:=hflat.2 x hx2;omega) (by have:=hflat.1;omega)
 rw[unionR (plain_form hpa)] at KUn
 generalize hun:unionT ps=u at KUn
 obtain⟨k2,s2,n2,ps2,fs2,vs2⟩:=u
 have HUN:Hid (shutU (sortT (keptR ps))=.mk k2 s2 n2 ps2 fs2 vs2):=Hd (by rw[unionR (plain_form hpa),hun])
 obtain⟨z,hz⟩:∃ z,ordT (.mk k2 s2 n2 ps2 fs2 vs2) (.mk 15 t n ps fs vs)=z:=⟨_,rfl⟩
 have HZ:=Hd hz
 have HVal:Hid (formT (.mk 15 t n ps fs vs)=(z == 0)):=Hd (by
  have ht:t=emptyB:=bytes_ext (by rw[ByteArray.toList_eq] at ht0;rw[ht0];rfl)
  have hfs:fs=[]:=List.eq_nil_of_length_eq_zero hnf
  have hvs:vs=[]:=List.eq_nil_of_length_eq_zero hnv
  subst ht hn0 hfs hvs
  have h1:formT (.mk 15 emptyB 0 ps [] [])=isUB ps:=by
   rw[formT_mk,show shapeK 15=⟨false,false,false,false,2,-1,true⟩ from rfl,hpa]
   unfold fitsB selfB
   simp[emptyL]
   omega
  rw[h1,Bool.eq_iff_iff,isUB_self hnp,hun,←hz,beq_iff_eq]
  exact ordT_zero.symm)
 obtain⟨f1,f2,f3,f4⟩:=no4 (m:=fs.length) (n:=vs.length) (by omega) (by omega)
 rw[hpa] at KAll
 have ep:(t.toList == [] && n == 0)=true:=by rw[ht0,hn0];rfl
 rw[ep] at KPl
 have p1:decide ((2:Int)≤(ps.length:Int))=true:=decide_eq_true (by omega)
 have p2:decide (2≤ps.length)=true:=decide_eq_true (by omega)
 clear hform hflat hcn' hrl hLl he hun hz
 try clear hnf
 try clear hnv
 try clear hnp
 try clear hn0
 try clear hpa
 try clear ht0
 go_enter Tryz.func38,Tryz.ntmps38
 go_upto_region 1 with fail
 rw[←HW1.out]
 obtain⟨x0,x1,x2,x3,x4,x5⟩:=HXC.out _ HB.out
 go_wp2_with fail
 refine (KAll.out _ HB.out).mono ?_
 rintro e w2 ⟨rfl,hb⟩
 have HB1:=Hd (HB.out.trans (hb.mono HB.out.size))
 clear hb
 clear x0 x1 x2 x3 x4 x5
 obtain⟨x0,x1,x2,x3,x4,x5⟩:=HXC.out _ HB1.out
 go_wp2_with fail
 clear x0 x1 x2 x3 x4 x5
 refine wp_region_held_drew (S:=(fun w'=>w'.cell? ⟨w.heap.size,0,none⟩=some (.int .i64 15)∧w'.cell? ⟨w.heap.size,1,none⟩=some (.string t)∧w'.cell? ⟨w.heap.size,2,none⟩=some (.int .i64 n)∧w'.cell? ⟨w.heap.size,3,none⟩=some (.slice A ps.length c)∧w'.cell? ⟨w.heap.size,4,none⟩=some (.slice A' fs.length c')∧w'.cell? ⟨w.heap.size,5,none⟩=some (.slice A'' vs.length c''))) (by kernel_rfl) (HXC.out _ HB1.out.drew) (fun hHeld=>?_)
 refine Plan.start [0] ?_
 refine Plan.tk (so rfl) hHeld ?_
 try simp only[Act.put,pz1,pz2,pz3]
 refine Plan.done ?_
 refine wpAnyH_ready (rs:=[1]) (by kernel_rfl) (by simp) ?_
 refine AllReadyH.cons (sd (some 115) rfl) (fun K hK=>?_) AllReadyH.nil
 go_simp
 refine (KPl.out _).mono ?_
 rintro e w4 ⟨rfl,hb⟩
 have HB2:=Hd (HB1.out.drew.trans (hb.mono HB1.out.drew.size))
 clear hb
 go_wp2_with fail
 refine hK.out _ _ (HXC.out _ HB2.out) (fun hHeld=>?_)
 clear hK K
 try simp only[Act.put,pz1,pz2,pz3]
 refine Plan.start [2,3,4,5,6,7,8,10] ?_
 iterate 8 (refine Plan.tk (so rfl) hHeld ?_;try simp only[Act.put,pz1,pz2,pz3])
 refine Plan.done ?_
 refine wpAnyH_ready (rs:=[9]) (by kernel_rfl) (by simp) ?_
 refine AllReadyH.cons (sd (some 123) rfl) (fun K hK=>?_) AllReadyH.nil
 go_simp
 refine (KUn.out _ HB2.out).mono ?_
 rintro e w5 ⟨rs,rfl,hr5,hb⟩
 have HB3:=Hd (HB2.out.trans (hb.mono HB2.out.size))
 have HRS:=Hd hr5
 clear hb hr5
 obtain⟨Aq,cq,Ag,cg,Ah,ch,rfl,-⟩:=HRS.out.inv
 simp only[cells6T] at HRS ⊢
 have KOrd:=Hd fun wx (hx:Below w5.heap.size w5 wx)=>order_ref (.mk k2 s2 n2 ps2 fs2 vs2) _ _ (.mk 15 t n ps fs vs) wx _ _ (HRS.out.later hx) (HREP.out.later (HBZ.out.trans ((HB3.out.trans (hx.mono HB3.out.size)).mono HBZ.out.size)))
 try simp only[cells6T] at KOrd
 rw[HZ.out] at KOrd
 go_wp2_with fail
 refine hK.out _ _ (HXC.out _ HB3.out) (fun hHeld=>?_)
 clear hK K
 try simp only[Act.put,pz1,pz2,pz3]
 refine wpAnyH_ready (rs:=[11]) (by kernel_rfl) (by simp) ?_
 refine AllReadyH.cons (sd (some 125) rfl) (fun K hK=>?_) AllReadyH.nil
 go_simp
 refine (KOrd.out _ (Below.refl _ _)).mono ?_
 rintro e w6 ⟨rfl,hgw⟩
 have HB4:=Hd (HB3.out.trans (hgw.below.mono HB3.out.size))
 clear hgw
 go_wp2_with fail
 refine hK.out _ _ (HXC.out _ HB4.out) (fun hHeld=>?_)
 clear hK K
 try simp only[Act.put,pz1,pz2,pz3]
 refine Plan.start [12,13,14] ?_
 iterate 3 (refine Plan.tk (so rfl) hHeld ?_;try simp only[Act.put,pz1,pz2,pz3])
 refine Plan.done ?_
 refine wpAnyH_done (by kernel_rfl) ?_ _
 clear hHeld
 go_wp2_with fail
 go_ret
 exact⟨by rw[HVal.out];rfl,HBZ.out.trans (HB4.out.mono HBZ.out.size)⟩
theorem len64_0 (w:World):Calls Tryz.prog 178 #[.int .u64 0] w fun e w'=>e=.returned (.int .i64 0)∧w'=w:=by
 have e0:wrap64 (Lib.len8 0)=0:=by kernel_rfl
 have e1:wrap64 0=0:=by kernel_rfl
 go_enter Tryz.func178,Tryz.ntmps178
 go_wp2_with fail
 go_ret
 exact⟨rfl,rfl⟩
theorem blen_0 (w:World):Calls Tryz.prog 140 #[.int .u64 0] w fun e w'=>e=.returned (.int .i64 0)∧w'=w:=by
 go_enter Tryz.func140,Tryz.ntmps140
 go_wp2_with fail
 refine (len64_0 _).mono ?_
 rintro e w' ⟨rfl,hw⟩;obtain rfl:=hw.symm
 go_wp2_with fail
 go_ret
 exact⟨rfl,rfl⟩
theorem isort_0 (w:World) (A:Option Addr) (c:Nat):Calls Tryz.prog 191 #[.slice A 0 c,.int .i64 0,.int .i64 0] w fun e w'=>e=.returned (.tuple #[])∧w'=w:=by
 go_enter Tryz.func191,Tryz.ntmps191
 go_wp2_with fail
 go_loopw [6] (fun v wr=>v=.int .i64 1∧wr=w) (fun _ _=>0)
 case atStart=>exact⟨rfl,rfl⟩
 case round=>
  obtain⟨rfl,rfl⟩:=hrel
  go_wp2_with fail
  go_end0
  exact⟨rfl,rfl⟩
theorem pdq_0 (w:World) (A:Option Addr) (c:Nat):Calls Tryz.prog 168 #[.slice A 0 c,.int .i64 0,.int .i64 0,.int .i64 0] w fun e w'=>e=.returned (.tuple #[])∧w'=w:=by
 go_enter Tryz.func168,Tryz.ntmps168
 go_wp2_with fail
 go_loopw [1,2,3,8,9] (fun a b l x y wr=>a=.int .i64 0∧b=.int .i64 0∧l=.int .i64 0∧x=.bool true∧y=.bool true∧wr=w) (fun _ _ _ _ _ _=>0)
 case atStart=>exact⟨rfl,rfl,rfl,rfl,rfl,rfl⟩
 case round=>
  obtain⟨rfl,rfl,rfl,rfl,rfl,rfl⟩:=hrel
  go_wp2_with fail
  refine (isort_0 _ _ _).mono ?_
  rintro e w' ⟨rfl,hw⟩;obtain rfl:=hw.symm
  go_wp2_with fail
  exact bodyPost_ret (v:=.tuple #[]) (by simp[results,Tryz.results168,go_sem]) rfl ⟨rfl,rfl⟩
theorem sort_0 (w:World) (A:Option Addr) (c:Nat):Calls Tryz.prog 133 #[.slice A 0 c] w fun e w'=>e=.returned (.tuple #[])∧w'=w:=by
 go_enter Tryz.func133,Tryz.ntmps133
 go_wp2_with fail
 refine (blen_0 _).mono ?_
 rintro e w' ⟨rfl,hw⟩;obtain rfl:=hw.symm
 go_wp2_with fail
 refine (pdq_0 _ _ _).mono ?_
 rintro e w' ⟨rfl,hw⟩;obtain rfl:=hw.symm
 go_wp2_with fail
 go_end0
 exact⟨rfl,rfl⟩
theorem compact_0 (w:World) (A:Option Addr) (c:Nat):Calls Tryz.prog 134 #[.slice A 0 c] w fun e w'=>e=.returned (.slice A 0 c)∧w'=w:=by
 go_enter Tryz.func134,Tryz.ntmps134
 go_wp2_with fail
 go_ret
 exact⟨rfl,rfl⟩
theorem len64_1 (w:World):Calls Tryz.prog 178 #[.int .u64 1] w fun e w'=>e=.returned (.int .i64 1)∧w'=w:=by
 have e0:wrap64 (Lib.len8 1)=1:=by kernel_rfl
 have e1:wrap64 1=1:=by kernel_rfl
 go_enter Tryz.func178,Tryz.ntmps178
 go_wp2_with fail
 go_ret
 exact⟨rfl,rfl⟩
theorem blen_1 (w:World):Calls Tryz.prog 140 #[.int .u64 1] w fun e w'=>e=.returned (.int .i64 1)∧w'=w:=by
 go_enter Tryz.func140,Tryz.ntmps140
 go_wp2_with fail
 refine (len64_1 _).mono ?_
 rintro e w' ⟨rfl,hw⟩;obtain rfl:=hw.symm
 go_wp2_with fail
 go_ret
 exact⟨rfl,rfl⟩
theorem isort_1 (w:World) (A:Option Addr) (c:Nat):Calls Tryz.prog 191 #[.slice A 1 c,.int .i64 0,.int .i64 1] w fun e w'=>e=.returned (.tuple #[])∧w'=w:=by
 go_enter Tryz.func191,Tryz.ntmps191
 go_wp2_with fail
 go_loopw [6] (fun v wr=>v=.int .i64 1∧wr=w) (fun _ _=>0)
 case atStart=>exact⟨rfl,rfl⟩
 case round=>
  obtain⟨rfl,rfl⟩:=hrel
  go_wp2_with fail
  go_end0
  exact⟨rfl,rfl⟩
theorem pdq_1 (w:World) (A:Option Addr) (c:Nat):Calls Tryz.prog 168 #[.slice A 1 c,.int .i64 0,.int .i64 1,.int .i64 1] w fun e w'=>e=.returned (.tuple #[])∧w'=w:=by
 go_enter Tryz.func168,Tryz.ntmps168
 go_wp2_with fail
 go_loopw [1,2,3,8,9] (fun a b l x y wr=>a=.int .i64 0∧b=.int .i64 1∧l=.int .i64 1∧x=.bool true∧y=.bool true∧wr=w) (fun _ _ _ _ _ _=>0)
 case atStart=>exact⟨rfl,rfl,rfl,rfl,rfl,rfl⟩
 case round=>
  obtain⟨rfl,rfl,rfl,rfl,rfl,rfl⟩:=hrel
  go_wp2_with fail
  refine (isort_1 _ _ _).mono ?_
  rintro e w' ⟨rfl,hw⟩;obtain rfl:=hw.symm
  go_wp2_with fail
  exact bodyPost_ret (v:=.tuple #[]) (by simp[results,Tryz.results168,go_sem]) rfl ⟨rfl,rfl⟩
theorem sort_1 (w:World) (A:Option Addr) (c:Nat):Calls Tryz.prog 133 #[.slice A 1 c] w fun e w'=>e=.returned (.tuple #[])∧w'=w:=by
 go_enter Tryz.func133,Tryz.ntmps133
 go_wp2_with fail
 refine (blen_1 _).mono ?_
 rintro e w' ⟨rfl,hw⟩;obtain rfl:=hw.symm
 go_wp2_with fail
 refine (pdq_1 _ _ _).mono ?_
 rintro e w' ⟨rfl,hw⟩;obtain rfl:=hw.symm
 go_wp2_with fail
 go_end0
 exact⟨rfl,rfl⟩
theorem compact_1 (w:World) (A:Option Addr) (c:Nat):Calls Tryz.prog 134 #[.slice A 1 c] w fun e w'=>e=.returned (.slice A 1 c)∧w'=w:=by
 go_enter Tryz.func134,Tryz.ntmps134
 go_wp2_with fail
 go_ret
 exact⟨rfl,rfl⟩
theorem infers_few {K:Nat→Prop} {w:World} {t:Ty} {cs:List Value} (hr:RepT K w t cs) (hf:formT t=true) (hn:(namesI t).length≤1) :
  Calls Tryz.prog 93 #[.agg cs.toArray] w fun e w'=>∃ A c,e=.returned (.slice A (namesI t).length c)∧ListS w' (namesI t) A∧Below w.heap.size w w':=by
 have kinf:=infs_any t
 obtain⟨k,s,n,ps,fs,vs⟩:=t
 obtain⟨A,c,B,d,C,e0,rfl,-⟩:=hr.inv
 simp only[cells6T] at hr ⊢
 obtain⟨w0,hw0⟩:∃ x,x=w.alloc (.cells #[.int .i64 k,.string s,.int .i64 n,.slice A ps.length c,.slice B fs.length d,.slice C vs.length e0] 26):=⟨_,rfl⟩
 obtain⟨w1,hw1⟩:∃ x,x=w0.alloc (.cells #[.slice none 0 0] 46):=⟨_,rfl⟩
 have hat:AtT K w0 (.mk k s n ps fs vs) w.heap.size 0:=by rw[hw0];exact AtT.box 26 hr
 have hb0:Below w.heap.size w w0:=by rw[hw0];exact (Below.refl _ _).alloc (Nat.le_refl _) _
 have hb1:Below w0.heap.size w0 w1:=by rw[hw1];exact (Below.refl _ _).alloc (Nat.le_refl _) _
 have hnm:NmS w0 w1 w0.heap.size []:=⟨.slice none 0 0,by rw[hw1];exact heap_alloc_new w0 _,⟨rfl,.inl ⟨rfl,rfl⟩⟩,hb1,Nat.le_refl _⟩
 have KI:=Hd (kinf K w0 w1 w.heap.size 0 w0.heap.size [] hat hf hnm (by simp only[List.length_nil];omega))
 have HB0:=Hd hb0
 have HW0:=Hd hw0
 have HW1:=Hd hw1
 clear kinf hr hat hb0 hb1 hnm hw0 hw1 hf
 rw[List.nil_append] at KI
 generalize namesI (.mk k s n ps fs vs)=l at KI hn ⊢
 go_enter Tryz.func93,Tryz.ntmps93
 go_upto_region 1 with fail
 rw[←HW0.out]
 go_upto_region 2 with fail
 rw[←HW1.out]
 go_wp2_with fail
 refine KI.out.mono ?_
 rintro e w2 ⟨rfl,v,hv,ho,hb,hg⟩
 have HB2:=Hd (HB0.out.trans (hb.mono HB0.out.size))
 obtain⟨Ax,cx,hls⟩:∃ Ax cx,v=.slice Ax l.length cx∧ListS w2 l Ax:=ho.list (by omega)
 have HLS:=Hd hls.2
 obtain⟨rfl,-⟩:=hls
 have z0:w2.cell? ⟨w0.heap.size,0,none⟩=some (.slice Ax l.length cx):=Ch hv 0
 clear hv ho hb hg
 rcases l with _ | ⟨x,_ | ⟨y,l⟩⟩
 ·simp only[List.length_nil] at *
  go_wp2_with fail
  refine (sort_0 _ _ _).mono ?_
  rintro e w' ⟨rfl,hw⟩;obtain rfl:=hw.symm
  go_wp2_with fail
  refine (compact_0 _ _ _).mono ?_
  rintro e w' ⟨rfl,hw⟩;obtain rfl:=hw.symm
  go_wp2_with fail
  go_ret
  exact⟨_,_,rfl,HLS.out,HB2.out⟩
 ·simp only[List.length_cons,List.length_nil,Nat.zero_add] at *
  go_wp2_with fail
  refine (sort_1 _ _ _).mono ?_
  rintro e w' ⟨rfl,hw⟩;obtain rfl:=hw.symm
  go_wp2_with fail
  refine (compact_1 _ _ _).mono ?_
  rintro e w' ⟨rfl,hw⟩;obtain rfl:=hw.symm
  go_wp2_with fail
  go_ret
  exact⟨_,_,rfl,HLS.out,HB2.out⟩
 ·simp at hn
mutual
def fillT (F:ByteArray→Option Ty):Ty→Ty
 | .mk k s n ps fs vs=>if k=22∧(F s).isSome then (F s).getD (tyK 2) else if k=15 then unionT (fillPs F k 0 ps) else .mk k s n (fillPs F k 0 ps) (fillFs F fs) vs
termination_by t=>SizeOf.sizeOf t
decreasing_by all_goals (simp;try omega)
def fillPs (F:ByteArray→Option Ty) (k:Int):Nat→List Ty→List Ty
 | _,[]=>[]
 | i,p :: l=>(if k=21∧i=1 then p else fillT F p) :: fillPs F k (i+1) l
termination_by _ l=>SizeOf.sizeOf l
decreasing_by all_goals (simp;try omega)
def fillFs (F:ByteArray→Option Ty):FsT→FsT
 | []=>[]
 | (a,b,t) :: l=>(a,b,fillT F t) :: fillFs F l
termination_by l=>SizeOf.sizeOf l
decreasing_by all_goals (simp;try omega)
end
mutual
def fillN (F:ByteArray→Option Ty):Ty→Nat
 | .mk k s _ ps fs vs=>if k=22∧(F s).isSome then cntT ((F s).getD (tyK 2)) else 1+(fillNs F k 0 ps+(fillNf F fs+cntV vs))
termination_by t=>SizeOf.sizeOf t
decreasing_by all_goals (simp;try omega)
def fillNs (F:ByteArray→Option Ty) (k:Int):Nat→List Ty→Nat
 | _,[]=>0
 | i,p :: l=>(if k=21∧i=1 then cntT p else fillN F p)+fillNs F k (i+1) l
termination_by _ l=>SizeOf.sizeOf l
decreasing_by all_goals (simp;try omega)
def fillNf (F:ByteArray→Option Ty):FsT→Nat
 | []=>0
 | (_,_,t) :: l=>fillN F t+fillNf F l
termination_by l=>SizeOf.sizeOf l
decreasing_by all_goals (simp;try omega)
end
variable {F:ByteArray→Option Ty}
theorem fillPs_len (k:Int):∀ (l:List Ty) (j:Nat),(fillPs F k j l).length=l.length
 | [],_=>by rw[fillPs]
 | p :: l,j=>by rw[fillPs,List.length_cons,fillPs_len k l (j+1),List.length_cons]
theorem fillFs_len:∀ l:FsT,(fillFs F l).length=l.length
 | []=>by rw[fillFs]
 | (a,b,t) :: l=>by rw[fillFs,List.length_cons,fillFs_len l,List.length_cons]
theorem fillPs_get (k:Int):∀ (l:List Ty) (j i:Nat),(fillPs F k j l)[i]?=(l[i]?).map fun p=>if k=21∧j+i=1 then p else fillT F p
 | [],_,_=>by rw[fillPs];rfl
 | p :: l,j,0=>by rw[fillPs];rfl
 | p :: l,j,i+1=>by
  rw[fillPs,List.getElem?_cons_succ,List.getElem?_cons_succ,fillPs_get k l (j+1) i]
  have e:j+1+i=j+(i+1):=by omega
  rw[e]
theorem fillFs_map:∀ l:FsT,fillFs F l=l.map fun f=>(f.1,f.2.1,fillT F f.2.2)
 | []=>by rw[fillFs];rfl
 | (a,b,t) :: l=>by rw[fillFs,fillFs_map l];rfl
theorem fillNs_next (k:Int):∀ (l:List Ty) (j i:Nat) (h:i<l.length),fillNs F k j (l.take (i+1))=fillNs F k j (l.take i)+(if k=21∧j+i=1 then cntT l[i] else fillN F l[i])
 | p :: l,j,0,_=>by
  rw[List.take_succ_cons,List.take_zero,List.take_zero,fillNs,fillNs,fillNs]
  simp
 | p :: l,j,i+1,h=>by
  rw[List.take_succ_cons,List.take_succ_cons,fillNs,fillNs,fillNs_next k l (j+1) i (by simpa using h)]
  have e:j+1+i=j+(i+1):=by omega
  rw[e,List.getElem_cons_succ]
  omega
theorem fillNf_next:∀ (l:FsT) (i:Nat) (h:i<l.length),fillNf F (l.take (i+1))=fillNf F (l.take i)+fillN F l[i].2.2
 | (a,b,t) :: l,0,_=>by
  rw[List.take_succ_cons,List.take_zero,List.take_zero,fillNf,fillNf]
  simp[fillNf]
 | (a,b,t) :: l,i+1,h=>by
  rw[List.take_succ_cons,List.take_succ_cons,fillNf,fillNf,fillNf_next l i (by simpa using h),List.getElem_cons_succ]
  omega
theorem fill_none (t:Ty):infT t=false→formT t=true→fillT F t=t∧fillN F t=cntT t:=by
 refine Ty.ind (C:=fun t=>infT t=false→formT t=true→fillT F t=t∧fillN F t=cntT t) (fun k s n ps fs vs hp hf _ hi hfm=>?_) t
 have hps:∀ p∈ps,formT p=true:=form_ps hfm
 have hfs:∀ f∈fs,formT f.2.2=true:=fun f hf=>by
  exact form_fs (t:=.mk k s n ps fs vs) hfm f hf
 rw[infT_mk,Bool.or_eq_false_iff,Bool.or_eq_false_iff] at hi
 obtain⟨⟨h22,hips⟩,hifs⟩:=hi
 have h22':k≠22:=by simpa using h22
 have hP:∀ (l:List Ty) (j:Nat),(∀ p∈l,p∈ps)→infPs k j l=false→fillPs F k j l=l∧fillNs F k j l=cntL l:=by
  intro l
  induction l with
  | nil=>intro j _ _;rw[fillPs,fillNs];exact⟨rfl,rfl⟩
  | cons p l ih=>
   intro j hm h
   rw[infPs,Bool.or_eq_false_iff] at h
   obtain⟨h1,h2⟩:=ih (j+1) (fun q hq=>hm q (List.mem_cons_of_mem _ hq)) h.2
   rw[fillPs,fillNs,h1,h2,cntL_cons]
   by_cases hc:k=21∧j=1
   ·rw[if_pos hc,if_pos hc];exact⟨rfl,rfl⟩
   ·have hm2:=hm p (by simp)
    have h3:infT p=false:=by
     have h4:=h.1
     rw[Bool.and_eq_false_iff] at h4
     rcases h4 with h4 | h4
     ·rw[Bool.not_eq_false'] at h4
      simp only[Bool.and_eq_true,beq_iff_eq] at h4
      exact absurd h4 hc
     ·exact h4
    obtain⟨h5,h6⟩:=hp p hm2 h3 (hps p hm2)
    rw[if_neg hc,if_neg hc,h5,h6]
    exact⟨rfl,rfl⟩
 have hF:∀ l:FsT,(∀ f∈l,f∈fs)→infFs l=false→fillFs F l=l∧fillNf F l=cntF l:=by
  intro l
  induction l with
  | nil=>intro _ _;rw[fillFs,fillNf];exact⟨rfl,rfl⟩
  | cons f l ih=>
   intro hm h
   obtain⟨a,b,q⟩:=f
   have h':infT q=false∧infFs l=false:=by
    unfold infFs at h ⊢
    rw[List.any_cons,Bool.or_eq_false_iff] at h
    exact h
   obtain⟨h1,h2⟩:=ih (fun q hq=>hm q (List.mem_cons_of_mem _ hq)) h'.2
   have hm2:=hm (a,b,q) (by simp)
   obtain⟨h5,h6⟩:=hf _ hm2 h'.1 (hfs _ hm2)
   have h5':fillT F q=q:=h5
   have h6':fillN F q=cntT q:=h6
   rw[fillFs,fillNf,h1,h2,h5',h6']
   exact⟨rfl,by simp[cntF]⟩
 obtain⟨e1,e2⟩:=hP ps 0 (fun _ h=>h) hips
 obtain⟨e3,e4⟩:=hF fs (fun _ h=>h) hifs
 have hn:¬ (k=22∧(F s).isSome=true):=fun h=>h22' h.1
 rw[fillT,fillN,if_neg hn,if_neg hn,e1,e2,e3,e4,cntT_mk]
 refine⟨?_,rfl⟩
 by_cases h15:k=15
 ·subst h15
  rw[if_pos rfl]
  exact union_of_parts hfm rfl
 ·rw[if_neg h15]
theorem fillPs_mem (k:Int) {l:List Ty} {x:Ty}:∀ j,x∈fillPs F k j l→∃ p∈l,x=p∨x=fillT F p:=by
 induction l with
 | nil=>intro j h;rw[fillPs] at h;cases h
 | cons p l ih=>
  intro j h
  rw[fillPs,List.mem_cons] at h
  rcases h with h | h
  ·refine⟨p,by simp,?_⟩
   by_cases hc:k=21∧j=1
   ·rw[if_pos hc] at h;exact .inl h
   ·rw[if_neg hc] at h;exact .inr h
  ·obtain⟨q,hq,hx⟩:=ih (j+1) h
   exact⟨q,by simp[hq],hx⟩
variable {F:ByteArray→Option Ty}
theorem fill_k {t:Ty} (h22:t.k≠22) (h15:t.k≠15):(fillT F t).k=t.k:=by
 obtain⟨k,s,n,ps,fs,vs⟩:=t
 have h1:¬ (k=22∧(F s).isSome=true):=fun h=>h22 h.1
 have h2:¬ k=15:=h15
 rw[fillT,if_neg h1,if_neg h2]
 rfl
theorem form_fill (hF:∀ s u,F s=some u→formT u=true) (t:Ty):formT t=true→formT (fillT F t)=true:=by
 refine Ty.ind (C:=fun t=>formT t=true→formT (fillT F t)=true) (fun k s n ps fs vs hp hf _ hfm=>?_) t
 have hps:∀ p∈ps,formT p=true:=form_ps hfm
 have hfs:∀ f∈fs,formT f.2.2=true:=fun f hf=>form_fs (t:=.mk k s n ps fs vs) hfm f hf
 have hall:∀ x∈fillPs F k 0 ps,formT x=true:=fun x hx=>by
  obtain⟨p,hp2,h | h⟩:=fillPs_mem k 0 hx
  ·rw[h];exact hps p hp2
  ·rw[h];exact hp p hp2 (hps p hp2)
 rw[fillT]
 by_cases hc:k=22∧(F s).isSome=true
 ·rw[if_pos hc]
  obtain⟨u,hu⟩:=Option.isSome_iff_exists.1 hc.2
  rw[hu,Option.getD_some]
  exact hF s u hu
 rw[if_neg hc]
 by_cases h15:k=15
 ·rw[if_pos h15]
  exact form_union hall
 rw[if_neg h15]
 rw[formT_mk,Bool.and_eq_true,Bool.and_eq_true,Bool.and_eq_true] at hfm ⊢
 obtain⟨⟨⟨h1,h2⟩,h3⟩,-⟩:=hfm
 have e1:fieldsT (fillFs F fs) formT=fieldsT fs formT:=by
  unfold fieldsT
  rw[fillFs_map,List.map_map]
  refine List.map_congr_left fun f hf2=>?_
  show (f.1,f.2.1,formT (fillT F f.2.2))=_
  rw[hf f hf2 (hfs f hf2),hfs f hf2]
 refine⟨⟨⟨h1,by rw[fillPs_len,fillFs_len];exact h2⟩,?_⟩,List.all_eq_true.2 hall⟩
 rw[e1]
 by_cases h23:k=23
 ·subst h23
  have e2:∀ l fo vo,selfB 23 s n l fo vo=l.all fun p=>p.k == 13:=fun l fo vo=>by unfold selfB;simp
  rw[e2] at h3 ⊢
  rw[List.all_eq_true] at h3 ⊢
  intro x hx
  obtain⟨p,hp2,h | h⟩:=fillPs_mem 23 0 hx
  ·rw[h];exact h3 p hp2
  ·have h13:p.k=13:=by simpa using h3 p hp2
   rw[h,fill_k (by omega) (by omega),h13]
   rfl
 ·have e2:∀ l l' fo vo,selfB k s n l fo vo=selfB k s n l' fo vo:=fun l l' fo vo=>by
   unfold selfB
   rw[if_neg h15,if_neg h15,if_neg h23,if_neg h23]
  rw[e2 _ ps]
  exact h3
def lookD (L:List (ByteArray×Ty)) (s:ByteArray):Option Ty:=(L.find? fun f=>decide (f.1=s)).map (·.2)
def FillA (P:Nat→Prop) (b:Nat) (T:TypeId) (w:World) (F:ByteArray→Option Ty) (p:Ty) (n0:Nat):Ending→World→Prop:=fun e w'=>∃ (rs:List Value) (u:Ty) (n1:Nat),e=.returned (.agg rs.toArray)∧RepT P w' u rs∧w'.heap[b]?=some (.cells #[.int .i64 n1] T (0,0))∧(n0+fillN F p≤4096→n1=n0+fillN F p∧u=fillT F p)∧(4096<n0+fillN F p→4096<n1)∧n1≤8192+cntT p∧cntT u≤cntT p*4097∧ButG (fun x=>x=b) w w'
theorem ListD.later {K:Nat→Prop} {w w':World} {l:List (ByteArray×Ty)} {A:Option Addr} {c:Nat} (h:ListD K w l A c) (hb:Below w.heap.size w w'):ListD K w' l A c:=by
 obtain⟨b,o,h1,h2⟩:=h
 refine⟨b,o,h1,fun i hi=>?_⟩
 obtain⟨h3,h4,cs,h5,h6⟩:=h2 i hi
 exact⟨cell_stays hb h3,h4,cs,fun j u hj=>cell_stays hb (h5 j u hj),h6.later hb⟩
theorem ListD.short {K:Nat→Prop} {w:World} {l:List (ByteArray×Ty)} {A:Option Addr} {c:Nat} (h:ListD K w l A c):l.length≤1000000000000000:=by
 obtain⟨b,o,h1,-⟩:=h
 exact h1.big
theorem ListD.at {K:Nat→Prop} {w:World} {l:List (ByteArray×Ty)} {A:Option Addr} {c:Nat} (h:ListD K w l A c) (h0:0<l.length):∃ b o,A=some ⟨b,o,none⟩∧K b∧∀ i (h:i<l.length),w.cell? ⟨b,o+i*7,none⟩=some (.string l[i].1)∧l[i].1.size≤1000000000000000∧AtT K w l[i].2 b (o+i*7+1):=by
 obtain⟨b,o,h1,h2⟩:=h
 obtain⟨h3,h4⟩:=h1.some h0
 exact⟨b,o,h3,h4,h2⟩
end Go.Proofs.YtlpfpehegddcfaaGreatDoor
