import Derived.Test.YtlpfpehegddcfaaGreatDoorMn25
namespace Go.Proofs.YtlpfpehegddcfaaGreatDoor
set_option maxRecDepth 100000
set_option maxHeartbeats 64000000
open Go.RowKit
theorem form_20m (t:ByteArray) (n:Int) (ps:List Ty) (fs:FsT) (vs:VsT) (hp:∀ p∈ps,FormR p) (hf:∀ f∈fs,FormR f.2.2) (hv:∀ v∈vs,∀ b∈v.2,FormR b) (hnf:fs.length=0) (hnv:vs.length=0) (hpa:ps.all formT=true) (hnm:nameT t=false):FormR (.mk 20 t n ps fs vs):=by
 refine form_pre 20 t n ps fs vs hp hf hv fun K w A c A' c' A'' c'' w1 h=>?_
 obtain⟨HXC,KAll,KPl,KNm,KOb,KBi,KOv,HREP,HCN,HBZ,HB,HS1,HX0,HW1,hlp,hlf,hlv⟩:=h
 clear hp hf hv
 have HVal:Hid (formT (.mk 20 t n ps fs vs)=false):=Hd (by
  rw[formT_mk,show shapeK 20=⟨true,true,false,false,2,2,true⟩ from rfl,hpa]
  unfold fitsB selfB
  simp[hnf,hnv,hnm])
 obtain⟨f1,f2,f3,f4⟩:=no4 (m:=fs.length) (n:=vs.length) (by omega) (by omega)
 rw[hpa] at KAll
 rw[hnm] at KNm
 clear hnf hnv hpa hnm
 go_enter Tryz.func38,Tryz.ntmps38
 go_upto_region 1 with fail
 rw[←HW1.out]
 obtain⟨x0,x1,x2,x3,x4,x5⟩:=HXC.out _ HB.out
 go_wp2_with fail
 refine (KAll.out _ HB.out).mono ?_
 rintro e w2 ⟨rfl,hb⟩
 have HB1:=Hd (HB.out.trans (hb.mono HB.out.size))
 clear hb
 clear x0 x1 x2 x3 x4 x5
 obtain⟨x0,x1,x2,x3,x4,x5⟩:=HXC.out _ HB1.out
 go_wp2_with fail
 refine (KNm.out _).mono ?_
 rintro e w3 ⟨rfl,hb⟩
 have HB2:=Hd (HB1.out.trans (hb.mono HB1.out.size))
 clear hb
 clear x0 x1 x2 x3 x4 x5
 obtain⟨x0,x1,x2,x3,x4,x5⟩:=HXC.out _ HB2.out
 go_wp2_with fail
 go_ret
 exact⟨by rw[HVal.out];rfl,HBZ.out.trans (HB2.out.mono HBZ.out.size)⟩
theorem form_20n (t:ByteArray) (n:Int) (ps:List Ty) (fs:FsT) (vs:VsT) (hp:∀ p∈ps,FormR p) (hf:∀ f∈fs,FormR f.2.2) (hv:∀ v∈vs,∀ b∈v.2,FormR b) (hnf:fs.length=0) (hnv:vs.length=0) (hpa:ps.all formT=true) (hnm:nameT t=true) (hn0:¬ 0≤n):FormR (.mk 20 t n ps fs vs):=by
 refine form_pre 20 t n ps fs vs hp hf hv fun K w A c A' c' A'' c'' w1 h=>?_
 obtain⟨HXC,KAll,KPl,KNm,KOb,KBi,KOv,HREP,HCN,HBZ,HB,HS1,HX0,HW1,hlp,hlf,hlv⟩:=h
 clear hp hf hv
 have HVal:Hid (formT (.mk 20 t n ps fs vs)=false):=Hd (by
  rw[formT_mk,show shapeK 20=⟨true,true,false,false,2,2,true⟩ from rfl,hpa]
  unfold fitsB selfB
  simp[hnf,hnv,hnm]
  omega)
 obtain⟨f1,f2,f3,f4⟩:=no4 (m:=fs.length) (n:=vs.length) (by omega) (by omega)
 rw[hpa] at KAll
 rw[hnm] at KNm
 have f5:decide (0≤n)=false:=by first | exact decide_eq_true (by omega) | exact decide_eq_false (by omega)
 clear hnf hnv hn0 hpa hnm
 go_enter Tryz.func38,Tryz.ntmps38
 go_upto_region 1 with fail
 rw[←HW1.out]
 obtain⟨x0,x1,x2,x3,x4,x5⟩:=HXC.out _ HB.out
 go_wp2_with fail
 refine (KAll.out _ HB.out).mono ?_
 rintro e w2 ⟨rfl,hb⟩
 have HB1:=Hd (HB.out.trans (hb.mono HB.out.size))
 clear hb
 clear x0 x1 x2 x3 x4 x5
 obtain⟨x0,x1,x2,x3,x4,x5⟩:=HXC.out _ HB1.out
 go_wp2_with fail
 refine (KNm.out _).mono ?_
 rintro e w3 ⟨rfl,hb⟩
 have HB2:=Hd (HB1.out.trans (hb.mono HB1.out.size))
 clear hb
 clear x0 x1 x2 x3 x4 x5
 obtain⟨x0,x1,x2,x3,x4,x5⟩:=HXC.out _ HB2.out
 go_wp2_with fail
 go_ret
 exact⟨by rw[HVal.out];rfl,HBZ.out.trans (HB2.out.mono HBZ.out.size)⟩
theorem form_20o (t:ByteArray) (n:Int) (ps:List Ty) (fs:FsT) (vs:VsT) (hp:∀ p∈ps,FormR p) (hf:∀ f∈fs,FormR f.2.2) (hv:∀ v∈vs,∀ b∈v.2,FormR b) (hnf:fs.length=0) (hnv:vs.length=0) (hpa:ps.all formT=true) (hnm:nameT t=true) (hn0:0≤n) (hn3:¬ n≤3):FormR (.mk 20 t n ps fs vs):=by
 refine form_pre 20 t n ps fs vs hp hf hv fun K w A c A' c' A'' c'' w1 h=>?_
 obtain⟨HXC,KAll,KPl,KNm,KOb,KBi,KOv,HREP,HCN,HBZ,HB,HS1,HX0,HW1,hlp,hlf,hlv⟩:=h
 clear hp hf hv
 have HVal:Hid (formT (.mk 20 t n ps fs vs)=false):=Hd (by
  rw[formT_mk,show shapeK 20=⟨true,true,false,false,2,2,true⟩ from rfl,hpa]
  unfold fitsB selfB
  simp[hnf,hnv,hnm]
  omega)
 obtain⟨f1,f2,f3,f4⟩:=no4 (m:=fs.length) (n:=vs.length) (by omega) (by omega)
 rw[hpa] at KAll
 rw[hnm] at KNm
 have f5:decide (0≤n)=true:=by first | exact decide_eq_true (by omega) | exact decide_eq_false (by omega)
 have f6:decide (n≤3)=false:=by first | exact decide_eq_true (by omega) | exact decide_eq_false (by omega)
 clear hnf hnv hn0 hn3 hpa hnm
 go_enter Tryz.func38,Tryz.ntmps38
 go_upto_region 1 with fail
 rw[←HW1.out]
 obtain⟨x0,x1,x2,x3,x4,x5⟩:=HXC.out _ HB.out
 go_wp2_with fail
 refine (KAll.out _ HB.out).mono ?_
 rintro e w2 ⟨rfl,hb⟩
 have HB1:=Hd (HB.out.trans (hb.mono HB.out.size))
 clear hb
 clear x0 x1 x2 x3 x4 x5
 obtain⟨x0,x1,x2,x3,x4,x5⟩:=HXC.out _ HB1.out
 go_wp2_with fail
 refine (KNm.out _).mono ?_
 rintro e w3 ⟨rfl,hb⟩
 have HB2:=Hd (HB1.out.trans (hb.mono HB1.out.size))
 clear hb
 clear x0 x1 x2 x3 x4 x5
 obtain⟨x0,x1,x2,x3,x4,x5⟩:=HXC.out _ HB2.out
 go_wp2_with fail
 go_ret
 exact⟨by rw[HVal.out];rfl,HBZ.out.trans (HB2.out.mono HBZ.out.size)⟩
theorem form_20p (t:ByteArray) (n:Int) (ps:List Ty) (fs:FsT) (vs:VsT) (hp:∀ p∈ps,FormR p) (hf:∀ f∈fs,FormR f.2.2) (hv:∀ v∈vs,∀ b∈v.2,FormR b) (hnf:fs.length=0) (hnv:vs.length=0) (hpa:ps.all formT=true) (hnm:nameT t=true) (hn0:0≤n) (hn3:n≤3) (hnp:ps.length≠2):FormR (.mk 20 t n ps fs vs):=by
 refine form_pre 20 t n ps fs vs hp hf hv fun K w A c A' c' A'' c'' w1 h=>?_
 obtain⟨HXC,KAll,KPl,KNm,KOb,KBi,KOv,HREP,HCN,HBZ,HB,HS1,HX0,HW1,hlp,hlf,hlv⟩:=h
 clear hp hf hv
 have HVal:Hid (formT (.mk 20 t n ps fs vs)=false):=Hd (by
  rw[formT_mk,show shapeK 20=⟨true,true,false,false,2,2,true⟩ from rfl,hpa]
  unfold fitsB selfB
  simp[hnf,hnv,hnm]
  omega)
 obtain⟨f1,f2,f3,f4⟩:=no4 (m:=fs.length) (n:=vs.length) (by omega) (by omega)
 rw[hpa] at KAll
 rw[hnm] at KNm
 have f5:decide (0≤n)=true:=by first | exact decide_eq_true (by omega) | exact decide_eq_false (by omega)
 have f6:decide (n≤3)=true:=by first | exact decide_eq_true (by omega) | exact decide_eq_false (by omega)
 have p1:((ps.length:Int) == 2)=false:=beq_eq_false_iff_ne.2 (by omega)
 have p2:(ps.length == 2)=false:=beq_eq_false_iff_ne.2 (by omega)
 have p3:decide (ps.length=2)=false:=decide_eq_false (by omega)
 have p4:decide ((ps.length:Int)=2)=false:=decide_eq_false (by omega)
 clear hnf hnv hnp hn0 hn3 hpa hnm
 go_enter Tryz.func38,Tryz.ntmps38
 go_upto_region 1 with fail
 rw[←HW1.out]
 obtain⟨x0,x1,x2,x3,x4,x5⟩:=HXC.out _ HB.out
 go_wp2_with fail
 refine (KAll.out _ HB.out).mono ?_
 rintro e w2 ⟨rfl,hb⟩
 have HB1:=Hd (HB.out.trans (hb.mono HB.out.size))
 clear hb
 clear x0 x1 x2 x3 x4 x5
 obtain⟨x0,x1,x2,x3,x4,x5⟩:=HXC.out _ HB1.out
 go_wp2_with fail
 refine (KNm.out _).mono ?_
 rintro e w3 ⟨rfl,hb⟩
 have HB2:=Hd (HB1.out.trans (hb.mono HB1.out.size))
 clear hb
 clear x0 x1 x2 x3 x4 x5
 obtain⟨x0,x1,x2,x3,x4,x5⟩:=HXC.out _ HB2.out
 go_wp2_with fail
 go_ret
 exact⟨by rw[HVal.out];rfl,HBZ.out.trans (HB2.out.mono HBZ.out.size)⟩
theorem form_20y (t:ByteArray) (n:Int) (ps:List Ty) (fs:FsT) (vs:VsT) (hp:∀ p∈ps,FormR p) (hf:∀ f∈fs,FormR f.2.2) (hv:∀ v∈vs,∀ b∈v.2,FormR b) (hnf:fs.length=0) (hnv:vs.length=0) (hpa:ps.all formT=true) (hnm:nameT t=true) (hn0:0≤n) (hn3:n≤3) (hnp:ps.length=2):FormR (.mk 20 t n ps fs vs):=by
 refine form_pre 20 t n ps fs vs hp hf hv fun K w A c A' c' A'' c'' w1 h=>?_
 obtain⟨HXC,KAll,KPl,KNm,KOb,KBi,KOv,HREP,HCN,HBZ,HB,HS1,HX0,HW1,hlp,hlf,hlv⟩:=h
 clear hp hf hv
 have HVal:Hid (formT (.mk 20 t n ps fs vs)=true):=Hd (by
  rw[formT_mk,show shapeK 20=⟨true,true,false,false,2,2,true⟩ from rfl,hpa]
  unfold fitsB selfB
  simp[hnf,hnv,hnm,hnp]
  omega)
 obtain⟨f1,f2,f3,f4⟩:=no4 (m:=fs.length) (n:=vs.length) (by omega) (by omega)
 rw[hpa] at KAll
 rw[hnm] at KNm
 have f5:decide (0≤n)=true:=by first | exact decide_eq_true (by omega) | exact decide_eq_false (by omega)
 have f6:decide (n≤3)=true:=by first | exact decide_eq_true (by omega) | exact decide_eq_false (by omega)
 have p1:((ps.length:Int) == 2)=true:=beq_iff_eq.2 (by omega)
 have p2:(ps.length == 2)=true:=beq_iff_eq.2 (by omega)
 have p3:decide (ps.length=2)=true:=decide_eq_true (by omega)
 have p4:decide ((ps.length:Int)=2)=true:=decide_eq_true (by omega)
 clear hnf hnv hnp hn0 hn3 hpa hnm
 go_enter Tryz.func38,Tryz.ntmps38
 go_upto_region 1 with fail
 rw[←HW1.out]
 obtain⟨x0,x1,x2,x3,x4,x5⟩:=HXC.out _ HB.out
 go_wp2_with fail
 refine (KAll.out _ HB.out).mono ?_
 rintro e w2 ⟨rfl,hb⟩
 have HB1:=Hd (HB.out.trans (hb.mono HB.out.size))
 clear hb
 clear x0 x1 x2 x3 x4 x5
 obtain⟨x0,x1,x2,x3,x4,x5⟩:=HXC.out _ HB1.out
 go_wp2_with fail
 refine (KNm.out _).mono ?_
 rintro e w3 ⟨rfl,hb⟩
 have HB2:=Hd (HB1.out.trans (hb.mono HB1.out.size))
 clear hb
 clear x0 x1 x2 x3 x4 x5
 obtain⟨x0,x1,x2,x3,x4,x5⟩:=HXC.out _ HB2.out
 go_wp2_with fail
 go_ret
 exact⟨by rw[HVal.out];rfl,HBZ.out.trans (HB2.out.mono HBZ.out.size)⟩
theorem form_21p (t:ByteArray) (n:Int) (ps:List Ty) (fs:FsT) (vs:VsT) (hp:∀ p∈ps,FormR p) (hf:∀ f∈fs,FormR f.2.2) (hv:∀ v∈vs,∀ b∈v.2,FormR b) (hnf:fs.length=0) (hnv:vs.length=0) (hpa:ps.all formT=true) (hnp:ps.length≠4):FormR (.mk 21 t n ps fs vs):=by
 refine form_pre 21 t n ps fs vs hp hf hv fun K w A c A' c' A'' c'' w1 h=>?_
 obtain⟨HXC,KAll,KPl,KNm,KOb,KBi,KOv,HREP,HCN,HBZ,HB,HS1,HX0,HW1,hlp,hlf,hlv⟩:=h
 clear hp hf hv
 have HVal:Hid (formT (.mk 21 t n ps fs vs)=false):=Hd (by
  rw[formT_mk,show shapeK 21=⟨true,true,false,false,4,4,true⟩ from rfl,hpa]
  unfold fitsB selfB
  simp[hnf,hnv]
  omega)
 obtain⟨f1,f2,f3,f4⟩:=no4 (m:=fs.length) (n:=vs.length) (by omega) (by omega)
 rw[hpa] at KAll
 have p1:((ps.length:Int) == 4)=false:=beq_eq_false_iff_ne.2 (by omega)
 have p2:(ps.length == 4)=false:=beq_eq_false_iff_ne.2 (by omega)
 have p3:decide (ps.length=4)=false:=decide_eq_false (by omega)
 have p4:decide ((ps.length:Int)=4)=false:=decide_eq_false (by omega)
 clear hnf hnv hnp hpa
 go_enter Tryz.func38,Tryz.ntmps38
 go_upto_region 1 with fail
 rw[←HW1.out]
 obtain⟨x0,x1,x2,x3,x4,x5⟩:=HXC.out _ HB.out
 go_wp2_with fail
 refine (KAll.out _ HB.out).mono ?_
 rintro e w2 ⟨rfl,hb⟩
 have HB1:=Hd (HB.out.trans (hb.mono HB.out.size))
 clear hb
 clear x0 x1 x2 x3 x4 x5
 obtain⟨x0,x1,x2,x3,x4,x5⟩:=HXC.out _ HB1.out
 go_wp2_with fail
 go_ret
 exact⟨by rw[HVal.out];rfl,HBZ.out.trans (HB1.out.mono HBZ.out.size)⟩
theorem form_21a (t:ByteArray) (n:Int) (ps:List Ty) (fs:FsT) (vs:VsT) (hp:∀ p∈ps,FormR p) (hf:∀ f∈fs,FormR f.2.2) (hv:∀ v∈vs,∀ b∈v.2,FormR b) (hnf:fs.length=0) (hnv:vs.length=0) (hpa:ps.all formT=true) (hnp:ps.length=4) (hn0:n=0) (ht0:t.toList=[]):FormR (.mk 21 t n ps fs vs):=by
 refine form_pre 21 t n ps fs vs hp hf hv fun K w A c A' c' A'' c'' w1 h=>?_
 obtain⟨HXC,KAll,KPl,KNm,KOb,KBi,KOv,HREP,HCN,HBZ,HB,HS1,HX0,HW1,hlp,hlf,hlv⟩:=h
 clear hp hf hv
 have HVal:Hid (formT (.mk 21 t n ps fs vs)=true):=Hd (by
  rw[formT_mk,show shapeK 21=⟨true,true,false,false,4,4,true⟩ from rfl,hpa]
  unfold fitsB selfB
  simp[hnf,hnv,hnp,hn0,ht0])
 obtain⟨f1,f2,f3,f4⟩:=no4 (m:=fs.length) (n:=vs.length) (by omega) (by omega)
 rw[hpa] at KAll
 have f5:(n == 0)=true:=by simpa using hn0
 have p1:((ps.length:Int) == 4)=true:=beq_iff_eq.2 (by omega)
 have p2:(ps.length == 4)=true:=beq_iff_eq.2 (by omega)
 have p3:decide (ps.length=4)=true:=decide_eq_true (by omega)
 have p4:decide ((ps.length:Int)=4)=true:=decide_eq_true (by omega)
 clear hnf hnv hnp hn0 hpa
 go_enter Tryz.func38,Tryz.ntmps38
 go_upto_region 1 with fail
 rw[←HW1.out]
 obtain⟨x0,x1,x2,x3,x4,x5⟩:=HXC.out _ HB.out
 go_wp2_with fail
 refine (KAll.out _ HB.out).mono ?_
 rintro e w2 ⟨rfl,hb⟩
 have HB1:=Hd (HB.out.trans (hb.mono HB.out.size))
 clear hb
 clear x0 x1 x2 x3 x4 x5
 obtain⟨x0,x1,x2,x3,x4,x5⟩:=HXC.out _ HB1.out
 go_wp2_with fail
 go_ret
 exact⟨by rw[HVal.out];rfl,HBZ.out.trans (HB1.out.mono HBZ.out.size)⟩
theorem form_21b (t:ByteArray) (n:Int) (ps:List Ty) (fs:FsT) (vs:VsT) (hp:∀ p∈ps,FormR p) (hf:∀ f∈fs,FormR f.2.2) (hv:∀ v∈vs,∀ b∈v.2,FormR b) (hnf:fs.length=0) (hnv:vs.length=0) (hpa:ps.all formT=true) (hnp:ps.length=4) (hn0:n=0) (a0:UInt8) (l0:List UInt8) (ht0:t.toList=a0 :: l0):FormR (.mk 21 t n ps fs vs):=by
 refine form_pre 21 t n ps fs vs hp hf hv fun K w A c A' c' A'' c'' w1 h=>?_
 obtain⟨HXC,KAll,KPl,KNm,KOb,KBi,KOv,HREP,HCN,HBZ,HB,HS1,HX0,HW1,hlp,hlf,hlv⟩:=h
 clear hp hf hv
 have HVal:Hid (formT (.mk 21 t n ps fs vs)=false):=Hd (by
  rw[formT_mk,show shapeK 21=⟨true,true,false,false,4,4,true⟩ from rfl,hpa]
  unfold fitsB selfB
  simp[hnf,hnv,hnp,hn0,ht0])
 obtain⟨f1,f2,f3,f4⟩:=no4 (m:=fs.length) (n:=vs.length) (by omega) (by omega)
 rw[hpa] at KAll
 subst hn0
 have p1:((ps.length:Int) == 4)=true:=beq_iff_eq.2 (by omega)
 have p2:(ps.length == 4)=true:=beq_iff_eq.2 (by omega)
 have p3:decide (ps.length=4)=true:=decide_eq_true (by omega)
 have p4:decide ((ps.length:Int)=4)=true:=decide_eq_true (by omega)
 clear hnf hnv hnp hpa
 go_enter Tryz.func38,Tryz.ntmps38
 go_upto_region 1 with fail
 rw[←HW1.out]
 obtain⟨x0,x1,x2,x3,x4,x5⟩:=HXC.out _ HB.out
 go_wp2_with fail
 refine (KAll.out _ HB.out).mono ?_
 rintro e w2 ⟨rfl,hb⟩
 have HB1:=Hd (HB.out.trans (hb.mono HB.out.size))
 clear hb
 clear x0 x1 x2 x3 x4 x5
 obtain⟨x0,x1,x2,x3,x4,x5⟩:=HXC.out _ HB1.out
 go_wp2_with fail
 go_ret
 exact⟨by rw[HVal.out];rfl,HBZ.out.trans (HB1.out.mono HBZ.out.size)⟩
theorem form_21c (t:ByteArray) (n:Int) (ps:List Ty) (fs:FsT) (vs:VsT) (hp:∀ p∈ps,FormR p) (hf:∀ f∈fs,FormR f.2.2) (hv:∀ v∈vs,∀ b∈v.2,FormR b) (hnf:fs.length=0) (hnv:vs.length=0) (hpa:ps.all formT=true) (hnp:ps.length=4) (hn0:n≠0) (hn1:n≠1):FormR (.mk 21 t n ps fs vs):=by
 refine form_pre 21 t n ps fs vs hp hf hv fun K w A c A' c' A'' c'' w1 h=>?_
 obtain⟨HXC,KAll,KPl,KNm,KOb,KBi,KOv,HREP,HCN,HBZ,HB,HS1,HX0,HW1,hlp,hlf,hlv⟩:=h
 clear hp hf hv
 have HVal:Hid (formT (.mk 21 t n ps fs vs)=false):=Hd (by
  rw[formT_mk,show shapeK 21=⟨true,true,false,false,4,4,true⟩ from rfl,hpa]
  unfold fitsB selfB
  simp[hnf,hnv,hnp,hn0,hn1])
 obtain⟨f1,f2,f3,f4⟩:=no4 (m:=fs.length) (n:=vs.length) (by omega) (by omega)
 rw[hpa] at KAll
 have f5:(n == 0)=false:=by simpa using hn0
 have f7:(n == 1)=false:=by simpa using hn1
 have p1:((ps.length:Int) == 4)=true:=beq_iff_eq.2 (by omega)
 have p2:(ps.length == 4)=true:=beq_iff_eq.2 (by omega)
 have p3:decide (ps.length=4)=true:=decide_eq_true (by omega)
 have p4:decide ((ps.length:Int)=4)=true:=decide_eq_true (by omega)
 clear hnf hnv hnp hn0 hn1 hpa
 go_enter Tryz.func38,Tryz.ntmps38
 go_upto_region 1 with fail
 rw[←HW1.out]
 obtain⟨x0,x1,x2,x3,x4,x5⟩:=HXC.out _ HB.out
 go_wp2_with fail
 refine (KAll.out _ HB.out).mono ?_
 rintro e w2 ⟨rfl,hb⟩
 have HB1:=Hd (HB.out.trans (hb.mono HB.out.size))
 clear hb
 clear x0 x1 x2 x3 x4 x5
 obtain⟨x0,x1,x2,x3,x4,x5⟩:=HXC.out _ HB1.out
 go_wp2_with fail
 go_ret
 exact⟨by rw[HVal.out];rfl,HBZ.out.trans (HB1.out.mono HBZ.out.size)⟩
theorem form_21mf (t:ByteArray) (n:Int) (ps:List Ty) (fs:FsT) (vs:VsT) (hp:∀ p∈ps,FormR p) (hf:∀ f∈fs,FormR f.2.2) (hv:∀ v∈vs,∀ b∈v.2,FormR b) (hnf:fs.length=0) (hnv:vs.length=0) (hpa:ps.all formT=true) (hnp:ps.length=4) (hn0:n≠0) (hn1:n=1) (hnm:nameT t=false):FormR (.mk 21 t n ps fs vs):=by
 refine form_pre 21 t n ps fs vs hp hf hv fun K w A c A' c' A'' c'' w1 h=>?_
 obtain⟨HXC,KAll,KPl,KNm,KOb,KBi,KOv,HREP,HCN,HBZ,HB,HS1,HX0,HW1,hlp,hlf,hlv⟩:=h
 clear hp hf hv
 have HVal:Hid (formT (.mk 21 t n ps fs vs)=false):=Hd (by
  rw[formT_mk,show shapeK 21=⟨true,true,false,false,4,4,true⟩ from rfl,hpa]
  unfold fitsB selfB
  simp[hnf,hnv,hnp,hn1,hnm])
 obtain⟨f1,f2,f3,f4⟩:=no4 (m:=fs.length) (n:=vs.length) (by omega) (by omega)
 rw[hpa] at KAll
 subst hn1
 rw[hnm] at KNm
 have p1:((ps.length:Int) == 4)=true:=beq_iff_eq.2 (by omega)
 have p2:(ps.length == 4)=true:=beq_iff_eq.2 (by omega)
 have p3:decide (ps.length=4)=true:=decide_eq_true (by omega)
 have p4:decide ((ps.length:Int)=4)=true:=decide_eq_true (by omega)
 clear hnf hnv hnp hn0 hpa hnm
 go_enter Tryz.func38,Tryz.ntmps38
 go_upto_region 1 with fail
 rw[←HW1.out]
 obtain⟨x0,x1,x2,x3,x4,x5⟩:=HXC.out _ HB.out
 go_wp2_with fail
 refine (KAll.out _ HB.out).mono ?_
 rintro e w2 ⟨rfl,hb⟩
 have HB1:=Hd (HB.out.trans (hb.mono HB.out.size))
 clear hb
 clear x0 x1 x2 x3 x4 x5
 obtain⟨x0,x1,x2,x3,x4,x5⟩:=HXC.out _ HB1.out
 go_wp2_with fail
 refine (KNm.out _).mono ?_
 rintro e w3 ⟨rfl,hb⟩
 have HB2:=Hd (HB1.out.trans (hb.mono HB1.out.size))
 clear hb
 clear x0 x1 x2 x3 x4 x5
 obtain⟨x0,x1,x2,x3,x4,x5⟩:=HXC.out _ HB2.out
 go_wp2_with fail
 go_ret
 exact⟨by rw[HVal.out];rfl,HBZ.out.trans (HB2.out.mono HBZ.out.size)⟩
theorem form_21mt (t:ByteArray) (n:Int) (ps:List Ty) (fs:FsT) (vs:VsT) (hp:∀ p∈ps,FormR p) (hf:∀ f∈fs,FormR f.2.2) (hv:∀ v∈vs,∀ b∈v.2,FormR b) (hnf:fs.length=0) (hnv:vs.length=0) (hpa:ps.all formT=true) (hnp:ps.length=4) (hn0:n≠0) (hn1:n=1) (hnm:nameT t=true):FormR (.mk 21 t n ps fs vs):=by
 refine form_pre 21 t n ps fs vs hp hf hv fun K w A c A' c' A'' c'' w1 h=>?_
 obtain⟨HXC,KAll,KPl,KNm,KOb,KBi,KOv,HREP,HCN,HBZ,HB,HS1,HX0,HW1,hlp,hlf,hlv⟩:=h
 clear hp hf hv
 have HVal:Hid (formT (.mk 21 t n ps fs vs)=true):=Hd (by
  rw[formT_mk,show shapeK 21=⟨true,true,false,false,4,4,true⟩ from rfl,hpa]
  unfold fitsB selfB
  simp[hnf,hnv,hnp,hn1,hnm])
 obtain⟨f1,f2,f3,f4⟩:=no4 (m:=fs.length) (n:=vs.length) (by omega) (by omega)
 rw[hpa] at KAll
 subst hn1
 rw[hnm] at KNm
 have p1:((ps.length:Int) == 4)=true:=beq_iff_eq.2 (by omega)
 have p2:(ps.length == 4)=true:=beq_iff_eq.2 (by omega)
 have p3:decide (ps.length=4)=true:=decide_eq_true (by omega)
 have p4:decide ((ps.length:Int)=4)=true:=decide_eq_true (by omega)
 clear hnf hnv hnp hn0 hpa hnm
 go_enter Tryz.func38,Tryz.ntmps38
 go_upto_region 1 with fail
 rw[←HW1.out]
 obtain⟨x0,x1,x2,x3,x4,x5⟩:=HXC.out _ HB.out
 go_wp2_with fail
 refine (KAll.out _ HB.out).mono ?_
 rintro e w2 ⟨rfl,hb⟩
 have HB1:=Hd (HB.out.trans (hb.mono HB.out.size))
 clear hb
 clear x0 x1 x2 x3 x4 x5
 obtain⟨x0,x1,x2,x3,x4,x5⟩:=HXC.out _ HB1.out
 go_wp2_with fail
 refine (KNm.out _).mono ?_
 rintro e w3 ⟨rfl,hb⟩
 have HB2:=Hd (HB1.out.trans (hb.mono HB1.out.size))
 clear hb
 clear x0 x1 x2 x3 x4 x5
 obtain⟨x0,x1,x2,x3,x4,x5⟩:=HXC.out _ HB2.out
 go_wp2_with fail
 go_ret
 exact⟨by rw[HVal.out];rfl,HBZ.out.trans (HB2.out.mono HBZ.out.size)⟩
theorem form_23t (t:ByteArray) (n:Int) (ps:List Ty) (fs:FsT) (vs:VsT) (hp:∀ p∈ps,FormR p) (hf:∀ f∈fs,FormR f.2.2) (hv:∀ v∈vs,∀ b∈v.2,FormR b) (hnf:fs.length=0) (hnv:vs.length=0) (hpa:ps.all formT=true) (a0:UInt8) (l0:List UInt8) (ht0:t.toList=a0 :: l0):FormR (.mk 23 t n ps fs vs):=by
 refine form_pre 23 t n ps fs vs hp hf hv fun K w A c A' c' A'' c'' w1 h=>?_
 obtain⟨HXC,KAll,KPl,KNm,KOb,KBi,KOv,HREP,HCN,HBZ,HB,HS1,HX0,HW1,hlp,hlf,hlv⟩:=h
 clear hp hf hv
 have HVal:Hid (formT (.mk 23 t n ps fs vs)=false):=Hd (by
  rw[formT_mk,show shapeK 23=⟨false,false,false,false,2,-1,true⟩ from rfl,hpa]
  unfold fitsB selfB
  simp[hnf,hnv,ht0])
 obtain⟨f1,f2,f3,f4⟩:=no4 (m:=fs.length) (n:=vs.length) (by omega) (by omega)
 rw[hpa] at KAll
 have ep:(t.toList == [] && n == 0)=false:=by rw[ht0];rfl
 rw[ep] at KPl
 clear hnf hnv hpa ht0
 go_enter Tryz.func38,Tryz.ntmps38
 go_upto_region 1 with fail
 rw[←HW1.out]
 obtain⟨x0,x1,x2,x3,x4,x5⟩:=HXC.out _ HB.out
 go_wp2_with fail
 refine (KAll.out _ HB.out).mono ?_
 rintro e w2 ⟨rfl,hb⟩
 have HB1:=Hd (HB.out.trans (hb.mono HB.out.size))
 clear hb
 clear x0 x1 x2 x3 x4 x5
 obtain⟨x0,x1,x2,x3,x4,x5⟩:=HXC.out _ HB1.out
 go_wp2_with fail
 refine (KPl.out _).mono ?_
 rintro e w3 ⟨rfl,hb⟩
 have HB2:=Hd (HB1.out.trans (hb.mono HB1.out.size))
 clear hb
 clear x0 x1 x2 x3 x4 x5
 obtain⟨x0,x1,x2,x3,x4,x5⟩:=HXC.out _ HB2.out
 go_wp2_with fail
 go_ret
 exact⟨by rw[HVal.out];rfl,HBZ.out.trans (HB2.out.mono HBZ.out.size)⟩
theorem form_23n (t:ByteArray) (n:Int) (ps:List Ty) (fs:FsT) (vs:VsT) (hp:∀ p∈ps,FormR p) (hf:∀ f∈fs,FormR f.2.2) (hv:∀ v∈vs,∀ b∈v.2,FormR b) (hnf:fs.length=0) (hnv:vs.length=0) (hpa:ps.all formT=true) (ht0:t.toList=[]) (hn0:n≠0):FormR (.mk 23 t n ps fs vs):=by
 refine form_pre 23 t n ps fs vs hp hf hv fun K w A c A' c' A'' c'' w1 h=>?_
 obtain⟨HXC,KAll,KPl,KNm,KOb,KBi,KOv,HREP,HCN,HBZ,HB,HS1,HX0,HW1,hlp,hlf,hlv⟩:=h
 clear hp hf hv
 have HVal:Hid (formT (.mk 23 t n ps fs vs)=false):=Hd (by
  rw[formT_mk,show shapeK 23=⟨false,false,false,false,2,-1,true⟩ from rfl,hpa]
  unfold fitsB selfB
  simp[hnf,hnv,ht0,hn0])
 obtain⟨f1,f2,f3,f4⟩:=no4 (m:=fs.length) (n:=vs.length) (by omega) (by omega)
 rw[hpa] at KAll
 have ep:(t.toList == [] && n == 0)=false:=by rw[ht0];simpa using hn0
 rw[ep] at KPl
 clear hnf hnv hn0 hpa ht0
 go_enter Tryz.func38,Tryz.ntmps38
 go_upto_region 1 with fail
 rw[←HW1.out]
 obtain⟨x0,x1,x2,x3,x4,x5⟩:=HXC.out _ HB.out
 go_wp2_with fail
 refine (KAll.out _ HB.out).mono ?_
 rintro e w2 ⟨rfl,hb⟩
 have HB1:=Hd (HB.out.trans (hb.mono HB.out.size))
 clear hb
 clear x0 x1 x2 x3 x4 x5
 obtain⟨x0,x1,x2,x3,x4,x5⟩:=HXC.out _ HB1.out
 go_wp2_with fail
 refine (KPl.out _).mono ?_
 rintro e w3 ⟨rfl,hb⟩
 have HB2:=Hd (HB1.out.trans (hb.mono HB1.out.size))
 clear hb
 clear x0 x1 x2 x3 x4 x5
 obtain⟨x0,x1,x2,x3,x4,x5⟩:=HXC.out _ HB2.out
 go_wp2_with fail
 go_ret
 exact⟨by rw[HVal.out];rfl,HBZ.out.trans (HB2.out.mono HBZ.out.size)⟩
theorem form_23p (t:ByteArray) (n:Int) (ps:List Ty) (fs:FsT) (vs:VsT) (hp:∀ p∈ps,FormR p) (hf:∀ f∈fs,FormR f.2.2) (hv:∀ v∈vs,∀ b∈v.2,FormR b) (hnf:fs.length=0) (hnv:vs.length=0) (hpa:ps.all formT=true) (ht0:t.toList=[]) (hn0:n=0) (hnp:¬ 2≤ps.length):FormR (.mk 23 t n ps fs vs):=by
 refine form_pre 23 t n ps fs vs hp hf hv fun K w A c A' c' A'' c'' w1 h=>?_
 obtain⟨HXC,KAll,KPl,KNm,KOb,KBi,KOv,HREP,HCN,HBZ,HB,HS1,HX0,HW1,hlp,hlf,hlv⟩:=h
 clear hp hf hv
 have HVal:Hid (formT (.mk 23 t n ps fs vs)=false):=Hd (by
  rw[formT_mk,show shapeK 23=⟨false,false,false,false,2,-1,true⟩ from rfl,hpa]
  unfold fitsB selfB
  simp[hnf,hnv,ht0,hn0]
  omega)
 obtain⟨f1,f2,f3,f4⟩:=no4 (m:=fs.length) (n:=vs.length) (by omega) (by omega)
 rw[hpa] at KAll
 have ep:(t.toList == [] && n == 0)=true:=by rw[ht0,hn0];rfl
 rw[ep] at KPl
 have p1:decide ((2:Int)≤(ps.length:Int))=false:=decide_eq_false (by omega)
 have p2:decide (2≤ps.length)=false:=decide_eq_false (by omega)
 clear hnf hnv hnp hn0 hpa ht0
 go_enter Tryz.func38,Tryz.ntmps38
 go_upto_region 1 with fail
 rw[←HW1.out]
 obtain⟨x0,x1,x2,x3,x4,x5⟩:=HXC.out _ HB.out
 go_wp2_with fail
 refine (KAll.out _ HB.out).mono ?_
 rintro e w2 ⟨rfl,hb⟩
 have HB1:=Hd (HB.out.trans (hb.mono HB.out.size))
 clear hb
 clear x0 x1 x2 x3 x4 x5
 obtain⟨x0,x1,x2,x3,x4,x5⟩:=HXC.out _ HB1.out
 go_wp2_with fail
 refine (KPl.out _).mono ?_
 rintro e w3 ⟨rfl,hb⟩
 have HB2:=Hd (HB1.out.trans (hb.mono HB1.out.size))
 clear hb
 clear x0 x1 x2 x3 x4 x5
 obtain⟨x0,x1,x2,x3,x4,x5⟩:=HXC.out _ HB2.out
 go_wp2_with fail
 go_ret
 exact⟨by rw[HVal.out];rfl,HBZ.out.trans (HB2.out.mono HBZ.out.size)⟩
theorem form_23bf (t:ByteArray) (n:Int) (ps:List Ty) (fs:FsT) (vs:VsT) (hp:∀ p∈ps,FormR p) (hf:∀ f∈fs,FormR f.2.2) (hv:∀ v∈vs,∀ b∈v.2,FormR b) (hnf:fs.length=0) (hnv:vs.length=0) (hpa:ps.all formT=true) (ht0:t.toList=[]) (hn0:n=0) (hnp:2≤ps.length) (hov:overT ps=false):FormR (.mk 23 t n ps fs vs):=by
 refine form_pre 23 t n ps fs vs hp hf hv fun K w A c A' c' A'' c'' w1 h=>?_
 obtain⟨HXC,KAll,KPl,KNm,KOb,KBi,KOv,HREP,HCN,HBZ,HB,HS1,HX0,HW1,hlp,hlf,hlv⟩:=h
 clear hp hf hv
 have HVal:Hid (formT (.mk 23 t n ps fs vs)=false):=Hd (by
  rw[formT_mk,show shapeK 23=⟨false,false,false,false,2,-1,true⟩ from rfl,hpa]
  unfold fitsB selfB
  have ho:(ps.all fun p=>p.k == 13)=false:=hov
  simp[hnf,hnv,ht0,hn0,ho])
 obtain⟨f1,f2,f3,f4⟩:=no4 (m:=fs.length) (n:=vs.length) (by omega) (by omega)
 rw[hpa] at KAll
 have ep:(t.toList == [] && n == 0)=true:=by rw[ht0,hn0];rfl
 rw[ep] at KPl
 have p1:decide ((2:Int)≤(ps.length:Int))=true:=decide_eq_true (by omega)
 have p2:decide (2≤ps.length)=true:=decide_eq_true (by omega)
 rw[hov] at KOv
 clear hnf hnv hnp hn0 hpa hov ht0
 go_enter Tryz.func38,Tryz.ntmps38
 go_upto_region 1 with fail
 rw[←HW1.out]
 obtain⟨x0,x1,x2,x3,x4,x5⟩:=HXC.out _ HB.out
 go_wp2_with fail
 refine (KAll.out _ HB.out).mono ?_
 rintro e w2 ⟨rfl,hb⟩
 have HB1:=Hd (HB.out.trans (hb.mono HB.out.size))
 clear hb
 clear x0 x1 x2 x3 x4 x5
 obtain⟨x0,x1,x2,x3,x4,x5⟩:=HXC.out _ HB1.out
 go_wp2_with fail
 refine (KPl.out _).mono ?_
 rintro e w3 ⟨rfl,hb⟩
 have HB2:=Hd (HB1.out.trans (hb.mono HB1.out.size))
 clear hb
 clear x0 x1 x2 x3 x4 x5
 obtain⟨x0,x1,x2,x3,x4,x5⟩:=HXC.out _ HB2.out
 go_wp2_with fail
 refine (KOv.out _ HB2.out).mono ?_
 rintro e w4 ⟨rfl,rfl⟩
 have HB3:=Hd HB2.out
 clear x0 x1 x2 x3 x4 x5
 obtain⟨x0,x1,x2,x3,x4,x5⟩:=HXC.out _ HB3.out
 go_wp2_with fail
 go_ret
 exact⟨by rw[HVal.out];rfl,HBZ.out.trans (HB3.out.mono HBZ.out.size)⟩
theorem form_23bt (t:ByteArray) (n:Int) (ps:List Ty) (fs:FsT) (vs:VsT) (hp:∀ p∈ps,FormR p) (hf:∀ f∈fs,FormR f.2.2) (hv:∀ v∈vs,∀ b∈v.2,FormR b) (hnf:fs.length=0) (hnv:vs.length=0) (hpa:ps.all formT=true) (ht0:t.toList=[]) (hn0:n=0) (hnp:2≤ps.length) (hov:overT ps=true):FormR (.mk 23 t n ps fs vs):=by
 refine form_pre 23 t n ps fs vs hp hf hv fun K w A c A' c' A'' c'' w1 h=>?_
 obtain⟨HXC,KAll,KPl,KNm,KOb,KBi,KOv,HREP,HCN,HBZ,HB,HS1,HX0,HW1,hlp,hlf,hlv⟩:=h
 clear hp hf hv
 have HVal:Hid (formT (.mk 23 t n ps fs vs)=true):=Hd (by
  rw[formT_mk,show shapeK 23=⟨false,false,false,false,2,-1,true⟩ from rfl,hpa]
  unfold fitsB selfB
  have ho:(ps.all fun p=>p.k == 13)=true:=hov
  simp[hnf,hnv,ht0,hn0,ho]
  omega)
 obtain⟨f1,f2,f3,f4⟩:=no4 (m:=fs.length) (n:=vs.length) (by omega) (by omega)
 rw[hpa] at KAll
 have ep:(t.toList == [] && n == 0)=true:=by rw[ht0,hn0];rfl
 rw[ep] at KPl
 have p1:decide ((2:Int)≤(ps.length:Int))=true:=decide_eq_true (by omega)
 have p2:decide (2≤ps.length)=true:=decide_eq_true (by omega)
 rw[hov] at KOv
 clear hnf hnv hnp hn0 hpa hov ht0
 go_enter Tryz.func38,Tryz.ntmps38
 go_upto_region 1 with fail
 rw[←HW1.out]
 obtain⟨x0,x1,x2,x3,x4,x5⟩:=HXC.out _ HB.out
 go_wp2_with fail
 refine (KAll.out _ HB.out).mono ?_
 rintro e w2 ⟨rfl,hb⟩
 have HB1:=Hd (HB.out.trans (hb.mono HB.out.size))
 clear hb
 clear x0 x1 x2 x3 x4 x5
 obtain⟨x0,x1,x2,x3,x4,x5⟩:=HXC.out _ HB1.out
 go_wp2_with fail
 refine (KPl.out _).mono ?_
 rintro e w3 ⟨rfl,hb⟩
 have HB2:=Hd (HB1.out.trans (hb.mono HB1.out.size))
 clear hb
 clear x0 x1 x2 x3 x4 x5
 obtain⟨x0,x1,x2,x3,x4,x5⟩:=HXC.out _ HB2.out
 go_wp2_with fail
 refine (KOv.out _ HB2.out).mono ?_
 rintro e w4 ⟨rfl,rfl⟩
 have HB3:=Hd HB2.out
 clear x0 x1 x2 x3 x4 x5
 obtain⟨x0,x1,x2,x3,x4,x5⟩:=HXC.out _ HB3.out
 go_wp2_with fail
 go_ret
 exact⟨by rw[HVal.out];rfl,HBZ.out.trans (HB3.out.mono HBZ.out.size)⟩
end Go.Proofs.YtlpfpehegddcfaaGreatDoor
