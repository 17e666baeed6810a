import Derived.Test.YtlpfpehegddcfaaGreatDoorMx22
namespace Go.Proofs.YtlpfpehegddcfaaGreatDoor
set_option maxRecDepth 100000
set_option maxHeartbeats 64000000
open Go.RowKit
theorem Za (t:Z8) (n:Int) (ps:List Ty) (fs:Bx) (vs:Bt) (hp:∀p∈ps,Ae p) (hf:∀f∈fs,Ae f.2.2) (hv:∀v∈vs,∀b∈v.2,Ae b) (hF:fs.length=0) (hG:vs.length=0) (hD:ps.all Aj=true) (hC:B6 t=false):Ae (.mk 20 t n ps fs vs):=by
 refine Bb 20 t n ps fs vs hp hf hv fun K w A c A' c' A'' c'' w1 h=>?_;obtain⟨HXC,KAll,KPl,KNm,KOb,KBi,KOv,HREP,HCN,HBZ,HB,HS1,HX0,HW1,hlp,hlf,hlv⟩:=h;clear hp hf hv;have hB:Z9 (Aj (.mk 20 t n ps fs vs)=false):=Hd (by
  rw[Ay,show Ak 20=⟨true,true,false,false,2,2,true⟩ from rfl,hD];unfold Ao Bs;simp[hF,hG,hC])
 obtain⟨f1,f2,f3,f4⟩:=F7 (m:=fs.length) (n:=vs.length) (by omega) (by omega);rw[hD]at KAll;rw[hC]at KNm;clear hF hG hD hC;go_enter Tryz.func38,Tryz.ntmps38;go_upto_region 1 with fail
 rw[<-HW1.o];obtain⟨x0,x1,x2,x3,x4,x5⟩:=HXC.o _ HB.o;go_wp2_with fail;refine (KAll.o _ HB.o).mono ?_;rintro e w2 ⟨rfl,hb⟩;have hA:=Hd (HB.o.trans (hb.mono HB.o.size));clear hb;clear x0 x1 x2 x3 x4 x5;obtain⟨x0,x1,x2,x3,x4,x5⟩:=HXC.o _ hA.o;go_wp2_with fail;refine (KNm.o _).mono ?_;rintro e w3 ⟨rfl,hb⟩;have hE:=Hd (hA.o.trans (hb.mono hA.o.size));clear hb;clear x0 x1 x2 x3 x4 x5;obtain⟨x0,x1,x2,x3,x4,x5⟩:=HXC.o _ hE.o;go_wp2_with fail;go_ret
 exact⟨by rw[hB.o];rfl,HBZ.o.trans (hE.o.mono HBZ.o.size)⟩
theorem Zb (t:Z8) (n:Int) (ps:List Ty) (fs:Bx) (vs:Bt) (hp:∀p∈ps,Ae p) (hf:∀f∈fs,Ae f.2.2) (hv:∀v∈vs,∀b∈v.2,Ae b) (hF:fs.length=0) (hG:vs.length=0) (hD:ps.all Aj=true) (hC:B6 t=true) (hH:¬ 0<=n):Ae (.mk 20 t n ps fs vs):=by
 refine Bb 20 t n ps fs vs hp hf hv fun K w A c A' c' A'' c'' w1 h=>?_;obtain⟨HXC,KAll,KPl,KNm,KOb,KBi,KOv,HREP,HCN,HBZ,HB,HS1,HX0,HW1,hlp,hlf,hlv⟩:=h;clear hp hf hv;have hB:Z9 (Aj (.mk 20 t n ps fs vs)=false):=Hd (by
  rw[Ay,show Ak 20=⟨true,true,false,false,2,2,true⟩ from rfl,hD];unfold Ao Bs;simp[hF,hG,hC];omega)
 obtain⟨f1,f2,f3,f4⟩:=F7 (m:=fs.length) (n:=vs.length) (by omega) (by omega);rw[hD]at KAll;rw[hC]at KNm;have f5:decide (0<=n)=false:=by first|exact decide_eq_true (by omega)|exact decide_eq_false (by omega)
 clear hF hG hH hD hC;go_enter Tryz.func38,Tryz.ntmps38;go_upto_region 1 with fail
 rw[<-HW1.o];obtain⟨x0,x1,x2,x3,x4,x5⟩:=HXC.o _ HB.o;go_wp2_with fail;refine (KAll.o _ HB.o).mono ?_;rintro e w2 ⟨rfl,hb⟩;have hA:=Hd (HB.o.trans (hb.mono HB.o.size));clear hb;clear x0 x1 x2 x3 x4 x5;obtain⟨x0,x1,x2,x3,x4,x5⟩:=HXC.o _ hA.o;go_wp2_with fail;refine (KNm.o _).mono ?_;rintro e w3 ⟨rfl,hb⟩;have hE:=Hd (hA.o.trans (hb.mono hA.o.size));clear hb;clear x0 x1 x2 x3 x4 x5;obtain⟨x0,x1,x2,x3,x4,x5⟩:=HXC.o _ hE.o;go_wp2_with fail;go_ret
 exact⟨by rw[hB.o];rfl,HBZ.o.trans (hE.o.mono HBZ.o.size)⟩
theorem Zc (t:Z8) (n:Int) (ps:List Ty) (fs:Bx) (vs:Bt) (hp:∀p∈ps,Ae p) (hf:∀f∈fs,Ae f.2.2) (hv:∀v∈vs,∀b∈v.2,Ae b) (hF:fs.length=0) (hG:vs.length=0) (hD:ps.all Aj=true) (hC:B6 t=true) (hH:0<=n) (hI:¬ n<=3):Ae (.mk 20 t n ps fs vs):=by
 refine Bb 20 t n ps fs vs hp hf hv fun K w A c A' c' A'' c'' w1 h=>?_;obtain⟨HXC,KAll,KPl,KNm,KOb,KBi,KOv,HREP,HCN,HBZ,HB,HS1,HX0,HW1,hlp,hlf,hlv⟩:=h;clear hp hf hv;have hB:Z9 (Aj (.mk 20 t n ps fs vs)=false):=Hd (by
  rw[Ay,show Ak 20=⟨true,true,false,false,2,2,true⟩ from rfl,hD];unfold Ao Bs;simp[hF,hG,hC];omega)
 obtain⟨f1,f2,f3,f4⟩:=F7 (m:=fs.length) (n:=vs.length) (by omega) (by omega);rw[hD]at KAll;rw[hC]at KNm;have f5:decide (0<=n)=true:=by first|exact decide_eq_true (by omega)|exact decide_eq_false (by omega)
 have f6:decide (n<=3)=false:=by first|exact decide_eq_true (by omega)|exact decide_eq_false (by omega)
 clear hF hG hH hI hD hC;go_enter Tryz.func38,Tryz.ntmps38;go_upto_region 1 with fail
 rw[<-HW1.o];obtain⟨x0,x1,x2,x3,x4,x5⟩:=HXC.o _ HB.o;go_wp2_with fail;refine (KAll.o _ HB.o).mono ?_;rintro e w2 ⟨rfl,hb⟩;have hA:=Hd (HB.o.trans (hb.mono HB.o.size));clear hb;clear x0 x1 x2 x3 x4 x5;obtain⟨x0,x1,x2,x3,x4,x5⟩:=HXC.o _ hA.o;go_wp2_with fail;refine (KNm.o _).mono ?_;rintro e w3 ⟨rfl,hb⟩;have hE:=Hd (hA.o.trans (hb.mono hA.o.size));clear hb;clear x0 x1 x2 x3 x4 x5;obtain⟨x0,x1,x2,x3,x4,x5⟩:=HXC.o _ hE.o;go_wp2_with fail;go_ret
 exact⟨by rw[hB.o];rfl,HBZ.o.trans (hE.o.mono HBZ.o.size)⟩
theorem Zd (t:Z8) (n:Int) (ps:List Ty) (fs:Bx) (vs:Bt) (hp:∀p∈ps,Ae p) (hf:∀f∈fs,Ae f.2.2) (hv:∀v∈vs,∀b∈v.2,Ae b) (hF:fs.length=0) (hG:vs.length=0) (hD:ps.all Aj=true) (hC:B6 t=true) (hH:0<=n) (hI:n<=3) (hJ:ps.length≠2):Ae (.mk 20 t n ps fs vs):=by
 refine Bb 20 t n ps fs vs hp hf hv fun K w A c A' c' A'' c'' w1 h=>?_;obtain⟨HXC,KAll,KPl,KNm,KOb,KBi,KOv,HREP,HCN,HBZ,HB,HS1,HX0,HW1,hlp,hlf,hlv⟩:=h;clear hp hf hv;have hB:Z9 (Aj (.mk 20 t n ps fs vs)=false):=Hd (by
  rw[Ay,show Ak 20=⟨true,true,false,false,2,2,true⟩ from rfl,hD];unfold Ao Bs;simp[hF,hG,hC];omega)
 obtain⟨f1,f2,f3,f4⟩:=F7 (m:=fs.length) (n:=vs.length) (by omega) (by omega);rw[hD]at KAll;rw[hC]at KNm;have f5:decide (0<=n)=true:=by first|exact decide_eq_true (by omega)|exact decide_eq_false (by omega)
 have f6:decide (n<=3)=true:=by first|exact decide_eq_true (by omega)|exact decide_eq_false (by omega)
 have p1:((ps.length:Int) == 2)=false:=beq_eq_false_iff_ne.2 (by omega);have p2:(ps.length == 2)=false:=beq_eq_false_iff_ne.2 (by omega);have p3:decide (ps.length=2)=false:=decide_eq_false (by omega);have p4:decide ((ps.length:Int)=2)=false:=decide_eq_false (by omega);clear hF hG hJ hH hI hD hC;go_enter Tryz.func38,Tryz.ntmps38;go_upto_region 1 with fail
 rw[<-HW1.o];obtain⟨x0,x1,x2,x3,x4,x5⟩:=HXC.o _ HB.o;go_wp2_with fail;refine (KAll.o _ HB.o).mono ?_;rintro e w2 ⟨rfl,hb⟩;have hA:=Hd (HB.o.trans (hb.mono HB.o.size));clear hb;clear x0 x1 x2 x3 x4 x5;obtain⟨x0,x1,x2,x3,x4,x5⟩:=HXC.o _ hA.o;go_wp2_with fail;refine (KNm.o _).mono ?_;rintro e w3 ⟨rfl,hb⟩;have hE:=Hd (hA.o.trans (hb.mono hA.o.size));clear hb;clear x0 x1 x2 x3 x4 x5;obtain⟨x0,x1,x2,x3,x4,x5⟩:=HXC.o _ hE.o;go_wp2_with fail;go_ret
 exact⟨by rw[hB.o];rfl,HBZ.o.trans (hE.o.mono HBZ.o.size)⟩
theorem Ze (t:Z8) (n:Int) (ps:List Ty) (fs:Bx) (vs:Bt) (hp:∀p∈ps,Ae p) (hf:∀f∈fs,Ae f.2.2) (hv:∀v∈vs,∀b∈v.2,Ae b) (hF:fs.length=0) (hH:vs.length=0) (hD:ps.all Aj=true) (hC:B6 t=true) (hI:0<=n) (hJ:n<=3) (hG:ps.length=2):Ae (.mk 20 t n ps fs vs):=by
 refine Bb 20 t n ps fs vs hp hf hv fun K w A c A' c' A'' c'' w1 h=>?_;obtain⟨HXC,KAll,KPl,KNm,KOb,KBi,KOv,HREP,HCN,HBZ,HB,HS1,HX0,HW1,hlp,hlf,hlv⟩:=h;clear hp hf hv;have hB:Z9 (Aj (.mk 20 t n ps fs vs)=true):=Hd (by
  rw[Ay,show Ak 20=⟨true,true,false,false,2,2,true⟩ from rfl,hD];unfold Ao Bs;simp[hF,hH,hC,hG];omega)
 obtain⟨f1,f2,f3,f4⟩:=F7 (m:=fs.length) (n:=vs.length) (by omega) (by omega);rw[hD]at KAll;rw[hC]at KNm;have f5:decide (0<=n)=true:=by first|exact decide_eq_true (by omega)|exact decide_eq_false (by omega)
 have f6:decide (n<=3)=true:=by first|exact decide_eq_true (by omega)|exact decide_eq_false (by omega)
 have p1:((ps.length:Int) == 2)=true:=beq_iff_eq.2 (by omega);have p2:(ps.length == 2)=true:=beq_iff_eq.2 (by omega);have p3:decide (ps.length=2)=true:=decide_eq_true (by omega);have p4:decide ((ps.length:Int)=2)=true:=decide_eq_true (by omega);clear hF hH hG hI hJ hD hC;go_enter Tryz.func38,Tryz.ntmps38;go_upto_region 1 with fail
 rw[<-HW1.o];obtain⟨x0,x1,x2,x3,x4,x5⟩:=HXC.o _ HB.o;go_wp2_with fail;refine (KAll.o _ HB.o).mono ?_;rintro e w2 ⟨rfl,hb⟩;have hA:=Hd (HB.o.trans (hb.mono HB.o.size));clear hb;clear x0 x1 x2 x3 x4 x5;obtain⟨x0,x1,x2,x3,x4,x5⟩:=HXC.o _ hA.o;go_wp2_with fail;refine (KNm.o _).mono ?_;rintro e w3 ⟨rfl,hb⟩;have hE:=Hd (hA.o.trans (hb.mono hA.o.size));clear hb;clear x0 x1 x2 x3 x4 x5;obtain⟨x0,x1,x2,x3,x4,x5⟩:=HXC.o _ hE.o;go_wp2_with fail;go_ret
 exact⟨by rw[hB.o];rfl,HBZ.o.trans (hE.o.mono HBZ.o.size)⟩
theorem Zi (t:Z8) (n:Int) (ps:List Ty) (fs:Bx) (vs:Bt) (hp:∀p∈ps,Ae p) (hf:∀f∈fs,Ae f.2.2) (hv:∀v∈vs,∀b∈v.2,Ae b) (hD:fs.length=0) (hE:vs.length=0) (hB:ps.all Aj=true) (hF:ps.length≠4):Ae (.mk 21 t n ps fs vs):=by
 refine Bb 21 t n ps fs vs hp hf hv fun K w A c A' c' A'' c'' w1 h=>?_;obtain⟨HXC,KAll,KPl,KNm,KOb,KBi,KOv,HREP,HCN,HBZ,HB,HS1,HX0,HW1,hlp,hlf,hlv⟩:=h;clear hp hf hv;have hA:Z9 (Aj (.mk 21 t n ps fs vs)=false):=Hd (by
  rw[Ay,show Ak 21=⟨true,true,false,false,4,4,true⟩ from rfl,hB];unfold Ao Bs;simp[hD,hE];omega)
 obtain⟨f1,f2,f3,f4⟩:=F7 (m:=fs.length) (n:=vs.length) (by omega) (by omega);rw[hB]at KAll;have p1:((ps.length:Int) == 4)=false:=beq_eq_false_iff_ne.2 (by omega);have p2:(ps.length == 4)=false:=beq_eq_false_iff_ne.2 (by omega);have p3:decide (ps.length=4)=false:=decide_eq_false (by omega);have p4:decide ((ps.length:Int)=4)=false:=decide_eq_false (by omega);clear hD hE hF hB;go_enter Tryz.func38,Tryz.ntmps38;go_upto_region 1 with fail
 rw[<-HW1.o];obtain⟨x0,x1,x2,x3,x4,x5⟩:=HXC.o _ HB.o;go_wp2_with fail;refine (KAll.o _ HB.o).mono ?_;rintro e w2 ⟨rfl,hb⟩;have hC:=Hd (HB.o.trans (hb.mono HB.o.size));clear hb;clear x0 x1 x2 x3 x4 x5;obtain⟨x0,x1,x2,x3,x4,x5⟩:=HXC.o _ hC.o;go_wp2_with fail;go_ret
 exact⟨by rw[hA.o];rfl,HBZ.o.trans (hC.o.mono HBZ.o.size)⟩
theorem Zf (t:Z8) (n:Int) (ps:List Ty) (fs:Bx) (vs:Bt) (hp:∀p∈ps,Ae p) (hf:∀f∈fs,Ae f.2.2) (hv:∀v∈vs,∀b∈v.2,Ae b) (hE:fs.length=0) (hG:vs.length=0) (hC:ps.all Aj=true) (hF:ps.length=4) (hB:n=0) (hH:t.toList=[]):Ae (.mk 21 t n ps fs vs):=by
 refine Bb 21 t n ps fs vs hp hf hv fun K w A c A' c' A'' c'' w1 h=>?_;obtain⟨HXC,KAll,KPl,KNm,KOb,KBi,KOv,HREP,HCN,HBZ,HB,HS1,HX0,HW1,hlp,hlf,hlv⟩:=h;clear hp hf hv;have hA:Z9 (Aj (.mk 21 t n ps fs vs)=true):=Hd (by
  rw[Ay,show Ak 21=⟨true,true,false,false,4,4,true⟩ from rfl,hC];unfold Ao Bs;simp[hE,hG,hF,hB,hH])
 obtain⟨f1,f2,f3,f4⟩:=F7 (m:=fs.length) (n:=vs.length) (by omega) (by omega);rw[hC]at KAll;have f5:(n == 0)=true:=by simpa using hB
 have p1:((ps.length:Int) == 4)=true:=beq_iff_eq.2 (by omega);have p2:(ps.length == 4)=true:=beq_iff_eq.2 (by omega);have p3:decide (ps.length=4)=true:=decide_eq_true (by omega);have p4:decide ((ps.length:Int)=4)=true:=decide_eq_true (by omega);clear hE hG hF hB hC;go_enter Tryz.func38,Tryz.ntmps38;go_upto_region 1 with fail
 rw[<-HW1.o];obtain⟨x0,x1,x2,x3,x4,x5⟩:=HXC.o _ HB.o;go_wp2_with fail;refine (KAll.o _ HB.o).mono ?_;rintro e w2 ⟨rfl,hb⟩;have hD:=Hd (HB.o.trans (hb.mono HB.o.size));clear hb;clear x0 x1 x2 x3 x4 x5;obtain⟨x0,x1,x2,x3,x4,x5⟩:=HXC.o _ hD.o;go_wp2_with fail;go_ret
 exact⟨by rw[hA.o];rfl,HBZ.o.trans (hD.o.mono HBZ.o.size)⟩
theorem Zg (t:Z8) (n:Int) (ps:List Ty) (fs:Bx) (vs:Bt) (hp:∀p∈ps,Ae p) (hf:∀f∈fs,Ae f.2.2) (hv:∀v∈vs,∀b∈v.2,Ae b) (hE:fs.length=0) (hG:vs.length=0) (hB:ps.all Aj=true) (hF:ps.length=4) (hD:n=0) (a0:UInt8) (l0:List UInt8) (hH:t.toList=a0 :: l0):Ae (.mk 21 t n ps fs vs):=by
 refine Bb 21 t n ps fs vs hp hf hv fun K w A c A' c' A'' c'' w1 h=>?_;obtain⟨HXC,KAll,KPl,KNm,KOb,KBi,KOv,HREP,HCN,HBZ,HB,HS1,HX0,HW1,hlp,hlf,hlv⟩:=h;clear hp hf hv;have hA:Z9 (Aj (.mk 21 t n ps fs vs)=false):=Hd (by
  rw[Ay,show Ak 21=⟨true,true,false,false,4,4,true⟩ from rfl,hB];unfold Ao Bs;simp[hE,hG,hF,hD,hH])
 obtain⟨f1,f2,f3,f4⟩:=F7 (m:=fs.length) (n:=vs.length) (by omega) (by omega);rw[hB]at KAll;subst hD;have p1:((ps.length:Int) == 4)=true:=beq_iff_eq.2 (by omega);have p2:(ps.length == 4)=true:=beq_iff_eq.2 (by omega);have p3:decide (ps.length=4)=true:=decide_eq_true (by omega);have p4:decide ((ps.length:Int)=4)=true:=decide_eq_true (by omega);clear hE hG hF hB;go_enter Tryz.func38,Tryz.ntmps38;go_upto_region 1 with fail
 rw[<-HW1.o];obtain⟨x0,x1,x2,x3,x4,x5⟩:=HXC.o _ HB.o;go_wp2_with fail;refine (KAll.o _ HB.o).mono ?_;rintro e w2 ⟨rfl,hb⟩;have hC:=Hd (HB.o.trans (hb.mono HB.o.size));clear hb;clear x0 x1 x2 x3 x4 x5;obtain⟨x0,x1,x2,x3,x4,x5⟩:=HXC.o _ hC.o;go_wp2_with fail;go_ret
 exact⟨by rw[hA.o];rfl,HBZ.o.trans (hC.o.mono HBZ.o.size)⟩
theorem Zh (t:Z8) (n:Int) (ps:List Ty) (fs:Bx) (vs:Bt) (hp:∀p∈ps,Ae p) (hf:∀f∈fs,Ae f.2.2) (hv:∀v∈vs,∀b∈v.2,Ae b) (hF:fs.length=0) (hH:vs.length=0) (hD:ps.all Aj=true) (hG:ps.length=4) (hB:n≠0) (hC:n≠1):Ae (.mk 21 t n ps fs vs):=by
 refine Bb 21 t n ps fs vs hp hf hv fun K w A c A' c' A'' c'' w1 h=>?_;obtain⟨HXC,KAll,KPl,KNm,KOb,KBi,KOv,HREP,HCN,HBZ,HB,HS1,HX0,HW1,hlp,hlf,hlv⟩:=h;clear hp hf hv;have hA:Z9 (Aj (.mk 21 t n ps fs vs)=false):=Hd (by
  rw[Ay,show Ak 21=⟨true,true,false,false,4,4,true⟩ from rfl,hD];unfold Ao Bs;simp[hF,hH,hG,hB,hC])
 obtain⟨f1,f2,f3,f4⟩:=F7 (m:=fs.length) (n:=vs.length) (by omega) (by omega);rw[hD]at KAll;have f5:(n == 0)=false:=by simpa using hB
 have f7:(n == 1)=false:=by simpa using hC
 have p1:((ps.length:Int) == 4)=true:=beq_iff_eq.2 (by omega);have p2:(ps.length == 4)=true:=beq_iff_eq.2 (by omega);have p3:decide (ps.length=4)=true:=decide_eq_true (by omega);have p4:decide ((ps.length:Int)=4)=true:=decide_eq_true (by omega);clear hF hH hG hB hC hD;go_enter Tryz.func38,Tryz.ntmps38;go_upto_region 1 with fail
 rw[<-HW1.o];obtain⟨x0,x1,x2,x3,x4,x5⟩:=HXC.o _ HB.o;go_wp2_with fail;refine (KAll.o _ HB.o).mono ?_;rintro e w2 ⟨rfl,hb⟩;have hE:=Hd (HB.o.trans (hb.mono HB.o.size));clear hb;clear x0 x1 x2 x3 x4 x5;obtain⟨x0,x1,x2,x3,x4,x5⟩:=HXC.o _ hE.o;go_wp2_with fail;go_ret
 exact⟨by rw[hA.o];rfl,HBZ.o.trans (hE.o.mono HBZ.o.size)⟩
theorem Wj (t:Z8) (n:Int) (ps:List Ty) (fs:Bx) (vs:Bt) (hp:∀p∈ps,Ae p) (hf:∀f∈fs,Ae f.2.2) (hv:∀v∈vs,∀b∈v.2,Ae b) (hG:fs.length=0) (hI:vs.length=0) (hD:ps.all Aj=true) (hH:ps.length=4) (hJ:n≠0) (hF:n=1) (hC:B6 t=false):Ae (.mk 21 t n ps fs vs):=by
 refine Bb 21 t n ps fs vs hp hf hv fun K w A c A' c' A'' c'' w1 h=>?_;obtain⟨HXC,KAll,KPl,KNm,KOb,KBi,KOv,HREP,HCN,HBZ,HB,HS1,HX0,HW1,hlp,hlf,hlv⟩:=h;clear hp hf hv;have hB:Z9 (Aj (.mk 21 t n ps fs vs)=false):=Hd (by
  rw[Ay,show Ak 21=⟨true,true,false,false,4,4,true⟩ from rfl,hD];unfold Ao Bs;simp[hG,hI,hH,hF,hC])
 obtain⟨f1,f2,f3,f4⟩:=F7 (m:=fs.length) (n:=vs.length) (by omega) (by omega);rw[hD]at KAll;subst hF;rw[hC]at KNm;have p1:((ps.length:Int) == 4)=true:=beq_iff_eq.2 (by omega);have p2:(ps.length == 4)=true:=beq_iff_eq.2 (by omega);have p3:decide (ps.length=4)=true:=decide_eq_true (by omega);have p4:decide ((ps.length:Int)=4)=true:=decide_eq_true (by omega);clear hG hI hH hJ hD hC;go_enter Tryz.func38,Tryz.ntmps38;go_upto_region 1 with fail
 rw[<-HW1.o];obtain⟨x0,x1,x2,x3,x4,x5⟩:=HXC.o _ HB.o;go_wp2_with fail;refine (KAll.o _ HB.o).mono ?_;rintro e w2 ⟨rfl,hb⟩;have hA:=Hd (HB.o.trans (hb.mono HB.o.size));clear hb;clear x0 x1 x2 x3 x4 x5;obtain⟨x0,x1,x2,x3,x4,x5⟩:=HXC.o _ hA.o;go_wp2_with fail;refine (KNm.o _).mono ?_;rintro e w3 ⟨rfl,hb⟩;have hE:=Hd (hA.o.trans (hb.mono hA.o.size));clear hb;clear x0 x1 x2 x3 x4 x5;obtain⟨x0,x1,x2,x3,x4,x5⟩:=HXC.o _ hE.o;go_wp2_with fail;go_ret
 exact⟨by rw[hB.o];rfl,HBZ.o.trans (hE.o.mono HBZ.o.size)⟩
theorem Wl (t:Z8) (n:Int) (ps:List Ty) (fs:Bx) (vs:Bt) (hp:∀p∈ps,Ae p) (hf:∀f∈fs,Ae f.2.2) (hv:∀v∈vs,∀b∈v.2,Ae b) (hG:fs.length=0) (hI:vs.length=0) (hD:ps.all Aj=true) (hH:ps.length=4) (hJ:n≠0) (hF:n=1) (hC:B6 t=true):Ae (.mk 21 t n ps fs vs):=by
 refine Bb 21 t n ps fs vs hp hf hv fun K w A c A' c' A'' c'' w1 h=>?_;obtain⟨HXC,KAll,KPl,KNm,KOb,KBi,KOv,HREP,HCN,HBZ,HB,HS1,HX0,HW1,hlp,hlf,hlv⟩:=h;clear hp hf hv;have hB:Z9 (Aj (.mk 21 t n ps fs vs)=true):=Hd (by
  rw[Ay,show Ak 21=⟨true,true,false,false,4,4,true⟩ from rfl,hD];unfold Ao Bs;simp[hG,hI,hH,hF,hC])
 obtain⟨f1,f2,f3,f4⟩:=F7 (m:=fs.length) (n:=vs.length) (by omega) (by omega);rw[hD]at KAll;subst hF;rw[hC]at KNm;have p1:((ps.length:Int) == 4)=true:=beq_iff_eq.2 (by omega);have p2:(ps.length == 4)=true:=beq_iff_eq.2 (by omega);have p3:decide (ps.length=4)=true:=decide_eq_true (by omega);have p4:decide ((ps.length:Int)=4)=true:=decide_eq_true (by omega);clear hG hI hH hJ hD hC;go_enter Tryz.func38,Tryz.ntmps38;go_upto_region 1 with fail
 rw[<-HW1.o];obtain⟨x0,x1,x2,x3,x4,x5⟩:=HXC.o _ HB.o;go_wp2_with fail;refine (KAll.o _ HB.o).mono ?_;rintro e w2 ⟨rfl,hb⟩;have hA:=Hd (HB.o.trans (hb.mono HB.o.size));clear hb;clear x0 x1 x2 x3 x4 x5;obtain⟨x0,x1,x2,x3,x4,x5⟩:=HXC.o _ hA.o;go_wp2_with fail;refine (KNm.o _).mono ?_;rintro e w3 ⟨rfl,hb⟩;have hE:=Hd (hA.o.trans (hb.mono hA.o.size));clear hb;clear x0 x1 x2 x3 x4 x5;obtain⟨x0,x1,x2,x3,x4,x5⟩:=HXC.o _ hE.o;go_wp2_with fail;go_ret
 exact⟨by rw[hB.o];rfl,HBZ.o.trans (hE.o.mono HBZ.o.size)⟩
theorem Zl (t:Z8) (n:Int) (ps:List Ty) (fs:Bx) (vs:Bt) (hp:∀p∈ps,Ae p) (hf:∀f∈fs,Ae f.2.2) (hv:∀v∈vs,∀b∈v.2,Ae b) (hF:fs.length=0) (hG:vs.length=0) (hC:ps.all Aj=true) (a0:UInt8) (l0:List UInt8) (hD:t.toList=a0 :: l0):Ae (.mk 23 t n ps fs vs):=by
 refine Bb 23 t n ps fs vs hp hf hv fun K w A c A' c' A'' c'' w1 h=>?_;obtain⟨HXC,KAll,KPl,KNm,KOb,KBi,KOv,HREP,HCN,HBZ,HB,HS1,HX0,HW1,hlp,hlf,hlv⟩:=h;clear hp hf hv;have hB:Z9 (Aj (.mk 23 t n ps fs vs)=false):=Hd (by
  rw[Ay,show Ak 23=⟨false,false,false,false,2,-1,true⟩ from rfl,hC];unfold Ao Bs;simp[hF,hG,hD])
 obtain⟨f1,f2,f3,f4⟩:=F7 (m:=fs.length) (n:=vs.length) (by omega) (by omega);rw[hC]at KAll;have ep:(t.toList == [] && n == 0)=false:=by rw[hD];rfl
 rw[ep]at KPl;clear hF hG hC hD;go_enter Tryz.func38,Tryz.ntmps38;go_upto_region 1 with fail
 rw[<-HW1.o];obtain⟨x0,x1,x2,x3,x4,x5⟩:=HXC.o _ HB.o;go_wp2_with fail;refine (KAll.o _ HB.o).mono ?_;rintro e w2 ⟨rfl,hb⟩;have hA:=Hd (HB.o.trans (hb.mono HB.o.size));clear hb;clear x0 x1 x2 x3 x4 x5;obtain⟨x0,x1,x2,x3,x4,x5⟩:=HXC.o _ hA.o;go_wp2_with fail;refine (KPl.o _).mono ?_;rintro e w3 ⟨rfl,hb⟩;have hE:=Hd (hA.o.trans (hb.mono hA.o.size));clear hb;clear x0 x1 x2 x3 x4 x5;obtain⟨x0,x1,x2,x3,x4,x5⟩:=HXC.o _ hE.o;go_wp2_with fail;go_ret
 exact⟨by rw[hB.o];rfl,HBZ.o.trans (hE.o.mono HBZ.o.size)⟩
theorem Zj (t:Z8) (n:Int) (ps:List Ty) (fs:Bx) (vs:Bt) (hp:∀p∈ps,Ae p) (hf:∀f∈fs,Ae f.2.2) (hv:∀v∈vs,∀b∈v.2,Ae b) (hG:fs.length=0) (hH:vs.length=0) (hD:ps.all Aj=true) (hE:t.toList=[]) (hC:n≠0):Ae (.mk 23 t n ps fs vs):=by
 refine Bb 23 t n ps fs vs hp hf hv fun K w A c A' c' A'' c'' w1 h=>?_;obtain⟨HXC,KAll,KPl,KNm,KOb,KBi,KOv,HREP,HCN,HBZ,HB,HS1,HX0,HW1,hlp,hlf,hlv⟩:=h;clear hp hf hv;have hB:Z9 (Aj (.mk 23 t n ps fs vs)=false):=Hd (by
  rw[Ay,show Ak 23=⟨false,false,false,false,2,-1,true⟩ from rfl,hD];unfold Ao Bs;simp[hG,hH,hE,hC])
 obtain⟨f1,f2,f3,f4⟩:=F7 (m:=fs.length) (n:=vs.length) (by omega) (by omega);rw[hD]at KAll;have ep:(t.toList == [] && n == 0)=false:=by rw[hE];simpa using hC
 rw[ep]at KPl;clear hG hH hC hD hE;go_enter Tryz.func38,Tryz.ntmps38;go_upto_region 1 with fail
 rw[<-HW1.o];obtain⟨x0,x1,x2,x3,x4,x5⟩:=HXC.o _ HB.o;go_wp2_with fail;refine (KAll.o _ HB.o).mono ?_;rintro e w2 ⟨rfl,hb⟩;have hA:=Hd (HB.o.trans (hb.mono HB.o.size));clear hb;clear x0 x1 x2 x3 x4 x5;obtain⟨x0,x1,x2,x3,x4,x5⟩:=HXC.o _ hA.o;go_wp2_with fail;refine (KPl.o _).mono ?_;rintro e w3 ⟨rfl,hb⟩;have hF:=Hd (hA.o.trans (hb.mono hA.o.size));clear hb;clear x0 x1 x2 x3 x4 x5;obtain⟨x0,x1,x2,x3,x4,x5⟩:=HXC.o _ hF.o;go_wp2_with fail;go_ret
 exact⟨by rw[hB.o];rfl,HBZ.o.trans (hF.o.mono HBZ.o.size)⟩
theorem Zk (t:Z8) (n:Int) (ps:List Ty) (fs:Bx) (vs:Bt) (hp:∀p∈ps,Ae p) (hf:∀f∈fs,Ae f.2.2) (hv:∀v∈vs,∀b∈v.2,Ae b) (hG:fs.length=0) (hH:vs.length=0) (hD:ps.all Aj=true) (hE:t.toList=[]) (hC:n=0) (hI:¬ 2<=ps.length):Ae (.mk 23 t n ps fs vs):=by
 refine Bb 23 t n ps fs vs hp hf hv fun K w A c A' c' A'' c'' w1 h=>?_;obtain⟨HXC,KAll,KPl,KNm,KOb,KBi,KOv,HREP,HCN,HBZ,HB,HS1,HX0,HW1,hlp,hlf,hlv⟩:=h;clear hp hf hv;have hB:Z9 (Aj (.mk 23 t n ps fs vs)=false):=Hd (by
  rw[Ay,show Ak 23=⟨false,false,false,false,2,-1,true⟩ from rfl,hD];unfold Ao Bs;simp[hG,hH,hE,hC];omega)
 obtain⟨f1,f2,f3,f4⟩:=F7 (m:=fs.length) (n:=vs.length) (by omega) (by omega);rw[hD]at KAll;have ep:(t.toList == [] && n == 0)=true:=by rw[hE,hC];rfl
 rw[ep]at KPl;have p1:decide ((2:Int)<=(ps.length:Int))=false:=decide_eq_false (by omega);have p2:decide (2<=ps.length)=false:=decide_eq_false (by omega);clear hG hH hI hC hD hE;go_enter Tryz.func38,Tryz.ntmps38;go_upto_region 1 with fail
 rw[<-HW1.o];obtain⟨x0,x1,x2,x3,x4,x5⟩:=HXC.o _ HB.o;go_wp2_with fail;refine (KAll.o _ HB.o).mono ?_;rintro e w2 ⟨rfl,hb⟩;have hA:=Hd (HB.o.trans (hb.mono HB.o.size));clear hb;clear x0 x1 x2 x3 x4 x5;obtain⟨x0,x1,x2,x3,x4,x5⟩:=HXC.o _ hA.o;go_wp2_with fail;refine (KPl.o _).mono ?_;rintro e w3 ⟨rfl,hb⟩;have hF:=Hd (hA.o.trans (hb.mono hA.o.size));clear hb;clear x0 x1 x2 x3 x4 x5;obtain⟨x0,x1,x2,x3,x4,x5⟩:=HXC.o _ hF.o;go_wp2_with fail;go_ret
 exact⟨by rw[hB.o];rfl,HBZ.o.trans (hF.o.mono HBZ.o.size)⟩
theorem Wm (t:Z8) (n:Int) (ps:List Ty) (fs:Bx) (vs:Bt) (hp:∀p∈ps,Ae p) (hf:∀f∈fs,Ae f.2.2) (hv:∀v∈vs,∀b∈v.2,Ae b) (hI:fs.length=0) (hJ:vs.length=0) (hF:ps.all Aj=true) (hG:t.toList=[]) (hD:n=0) (hK:2<=ps.length) (hE:I1 ps=false):Ae (.mk 23 t n ps fs vs):=by
 refine Bb 23 t n ps fs vs hp hf hv fun K w A c A' c' A'' c'' w1 h=>?_;obtain⟨HXC,KAll,KPl,KNm,KOb,KBi,KOv,HREP,HCN,HBZ,HB,HS1,HX0,HW1,hlp,hlf,hlv⟩:=h;clear hp hf hv;have hC:Z9 (Aj (.mk 23 t n ps fs vs)=false):=Hd (by
  rw[Ay,show Ak 23=⟨false,false,false,false,2,-1,true⟩ from rfl,hF];unfold Ao Bs;have ho:(ps.all fun p=>p.k == 13)=false:=hE;simp[hI,hJ,hG,hD,ho])
 obtain⟨f1,f2,f3,f4⟩:=F7 (m:=fs.length) (n:=vs.length) (by omega) (by omega);rw[hF]at KAll;have ep:(t.toList == [] && n == 0)=true:=by rw[hG,hD];rfl
 rw[ep]at KPl;have p1:decide ((2:Int)<=(ps.length:Int))=true:=decide_eq_true (by omega);have p2:decide (2<=ps.length)=true:=decide_eq_true (by omega);rw[hE]at KOv;clear hI hJ hK hD hF hE hG;go_enter Tryz.func38,Tryz.ntmps38;go_upto_region 1 with fail
 rw[<-HW1.o];obtain⟨x0,x1,x2,x3,x4,x5⟩:=HXC.o _ HB.o;go_wp2_with fail;refine (KAll.o _ HB.o).mono ?_;rintro e w2 ⟨rfl,hb⟩;have hA:=Hd (HB.o.trans (hb.mono HB.o.size));clear hb;clear x0 x1 x2 x3 x4 x5;obtain⟨x0,x1,x2,x3,x4,x5⟩:=HXC.o _ hA.o;go_wp2_with fail;refine (KPl.o _).mono ?_;rintro e w3 ⟨rfl,hb⟩;have hB:=Hd (hA.o.trans (hb.mono hA.o.size));clear hb;clear x0 x1 x2 x3 x4 x5;obtain⟨x0,x1,x2,x3,x4,x5⟩:=HXC.o _ hB.o;go_wp2_with fail;refine (KOv.o _ hB.o).mono ?_;rintro e w4 ⟨rfl,rfl⟩;have hH:=Hd hB.o;clear x0 x1 x2 x3 x4 x5;obtain⟨x0,x1,x2,x3,x4,x5⟩:=HXC.o _ hH.o;go_wp2_with fail;go_ret
 exact⟨by rw[hC.o];rfl,HBZ.o.trans (hH.o.mono HBZ.o.size)⟩
theorem Wn (t:Z8) (n:Int) (ps:List Ty) (fs:Bx) (vs:Bt) (hp:∀p∈ps,Ae p) (hf:∀f∈fs,Ae f.2.2) (hv:∀v∈vs,∀b∈v.2,Ae b) (hI:fs.length=0) (hJ:vs.length=0) (hF:ps.all Aj=true) (hG:t.toList=[]) (hD:n=0) (hK:2<=ps.length) (hE:I1 ps=true):Ae (.mk 23 t n ps fs vs):=by
 refine Bb 23 t n ps fs vs hp hf hv fun K w A c A' c' A'' c'' w1 h=>?_;obtain⟨HXC,KAll,KPl,KNm,KOb,KBi,KOv,HREP,HCN,HBZ,HB,HS1,HX0,HW1,hlp,hlf,hlv⟩:=h;clear hp hf hv;have hC:Z9 (Aj (.mk 23 t n ps fs vs)=true):=Hd (by
  rw[Ay,show Ak 23=⟨false,false,false,false,2,-1,true⟩ from rfl,hF];unfold Ao Bs;have ho:(ps.all fun p=>p.k == 13)=true:=hE;simp[hI,hJ,hG,hD,ho];omega)
 obtain⟨f1,f2,f3,f4⟩:=F7 (m:=fs.length) (n:=vs.length) (by omega) (by omega);rw[hF]at KAll;have ep:(t.toList == [] && n == 0)=true:=by rw[hG,hD];rfl
 rw[ep]at KPl;have p1:decide ((2:Int)<=(ps.length:Int))=true:=decide_eq_true (by omega);have p2:decide (2<=ps.length)=true:=decide_eq_true (by omega);rw[hE]at KOv;clear hI hJ hK hD hF hE hG;go_enter Tryz.func38,Tryz.ntmps38;go_upto_region 1 with fail
 rw[<-HW1.o];obtain⟨x0,x1,x2,x3,x4,x5⟩:=HXC.o _ HB.o;go_wp2_with fail;refine (KAll.o _ HB.o).mono ?_;rintro e w2 ⟨rfl,hb⟩;have hA:=Hd (HB.o.trans (hb.mono HB.o.size));clear hb;clear x0 x1 x2 x3 x4 x5;obtain⟨x0,x1,x2,x3,x4,x5⟩:=HXC.o _ hA.o;go_wp2_with fail;refine (KPl.o _).mono ?_;rintro e w3 ⟨rfl,hb⟩;have hB:=Hd (hA.o.trans (hb.mono hA.o.size));clear hb;clear x0 x1 x2 x3 x4 x5;obtain⟨x0,x1,x2,x3,x4,x5⟩:=HXC.o _ hB.o;go_wp2_with fail;refine (KOv.o _ hB.o).mono ?_;rintro e w4 ⟨rfl,rfl⟩;have hH:=Hd hB.o;clear x0 x1 x2 x3 x4 x5;obtain⟨x0,x1,x2,x3,x4,x5⟩:=HXC.o _ hH.o;go_wp2_with fail;go_ret
 exact⟨by rw[hC.o];rfl,HBZ.o.trans (hH.o.mono HBZ.o.size)⟩
theorem Y1 (t:Z8) (n:Int) (ps:List Ty) (fs:Bx) (vs:Bt) (hp:∀p∈ps,Ae p) (hf:∀f∈fs,Ae f.2.2) (hv:∀v∈vs,∀b∈v.2,Ae b) (hG:fs.length=0) (hH:vs.length=0) (hD:ps.all Aj=true) (a0:UInt8) (l0:List UInt8) (hE:t.toList=a0 :: l0):Ae (.mk 15 t n ps fs vs):=by
 refine Bb 15 t n ps fs vs hp hf hv fun K w A c A' c' A'' c'' w1 h=>?_;obtain⟨HXC,KAll,KPl,KNm,KOb,KBi,KOv,HREP,HCN,HBZ,HB,HS1,HX0,HW1,hlp,hlf,hlv⟩:=h;clear hp hf hv;have hC:Z9 (Aj (.mk 15 t n ps fs vs)=false):=Hd (by
  rw[Ay,show Ak 15=⟨false,false,false,false,2,-1,true⟩ from rfl,hD];unfold Ao Bs;simp[hG,hH,hE])
 obtain⟨f1,f2,f3,f4⟩:=F7 (m:=fs.length) (n:=vs.length) (by omega) (by omega);rw[hD]at KAll;have ep:(t.toList == [] && n == 0)=false:=by rw[hE];rfl
 rw[ep]at KPl;try clear hG
 try clear hH
 try clear hnp
 try clear hn0
 try clear hD
 try clear hE
 go_enter Tryz.func38,Tryz.ntmps38;go_upto_region 1 with fail
 rw[<-HW1.o];obtain⟨x0,x1,x2,x3,x4,x5⟩:=HXC.o _ HB.o;go_wp2_with fail;refine (KAll.o _ HB.o).mono ?_;rintro e w2 ⟨rfl,hb⟩;have hB:=Hd (HB.o.trans (hb.mono HB.o.size));clear hb;clear x0 x1 x2 x3 x4 x5;obtain⟨x0,x1,x2,x3,x4,x5⟩:=HXC.o _ hB.o;go_wp2_with fail;clear x0 x1 x2 x3 x4 x5;refine wp_region_held_drew (S:=(fun w'=>w'.cell? ⟨w.heap.size,0,none⟩=some (.int .i64 15)/\w'.cell? ⟨w.heap.size,1,none⟩=some (.string t)/\w'.cell? ⟨w.heap.size,2,none⟩=some (.int .i64 n)/\w'.cell? ⟨w.heap.size,3,none⟩=some (.slice A ps.length c)/\w'.cell? ⟨w.heap.size,4,none⟩=some (.slice A' fs.length c')/\w'.cell? ⟨w.heap.size,5,none⟩=some (.slice A'' vs.length c''))) (by kernel_rfl) (HXC.o _ hB.o.drew) (fun hA=>?_);refine Ab.s [0] ?_;refine Ab.k (so rfl) hA ?_;try simp only[Act.put,Bd,Be,Bf]
 refine Ab.d ?_;refine wpAnyH_ready (rs:=[1]) (by kernel_rfl) (by simp) ?_;refine AllReadyH.cons (sd (some 115) rfl) (fun K hK=>?_) AllReadyH.nil;go_simp;refine (KPl.o _).mono ?_;rintro e w4 ⟨rfl,hb⟩;have hF:=Hd (hB.o.drew.trans (hb.mono hB.o.drew.size));clear hb;go_wp2_with fail;refine hK.out _ _ (HXC.o _ hF.o) (fun hA=>?_);clear hK K;try simp only[Act.put,Bd,Be,Bf]
 refine Ab.s [2] ?_;refine Ab.k (so rfl) hA ?_;try simp only[Act.put,Bd,Be,Bf]
 refine Ab.d ?_;refine Ab.s [3,4] ?_
 iterate 2 (refine Ab.t (v:=undef) (so rfl) (by kernel_rfl) (by kernel_rfl) (by kernel_rfl) (fun _ _ _ h=>h) (Or.inr ⟨by rfl,rfl⟩) hA ?_;try simp only[Act.put,Bd,Be,Bf])
 refine Ab.d ?_;refine Ab.s [5,6] ?_
 iterate 2 (refine Ab.k (so rfl) hA ?_;try simp only[Act.put,Bd,Be,Bf])
 refine Ab.d ?_;refine Ab.s [7,8,9,10,11,12] ?_
 iterate 6 (refine Ab.t (v:=undef) (so rfl) (by kernel_rfl) (by kernel_rfl) (by kernel_rfl) (fun _ _ _ h=>h) (Or.inr ⟨by rfl,rfl⟩) hA ?_;try simp only[Act.put,Bd,Be,Bf])
 refine Ab.d ?_;refine Ab.s [13,14] ?_
 iterate 2 (refine Ab.k (so rfl) hA ?_;try simp only[Act.put,Bd,Be,Bf])
 refine Ab.d ?_;refine wpAnyH_done (by kernel_rfl) ?_ _;clear hA;go_wp2_with fail;go_ret
 exact⟨by rw[hC.o];rfl,HBZ.o.trans (hF.o.mono HBZ.o.size)⟩
theorem Yz (t:Z8) (n:Int) (ps:List Ty) (fs:Bx) (vs:Bt) (hp:∀p∈ps,Ae p) (hf:∀f∈fs,Ae f.2.2) (hv:∀v∈vs,∀b∈v.2,Ae b) (hH:fs.length=0) (hI:vs.length=0) (hE:ps.all Aj=true) (hF:t.toList=[]) (hD:n≠0):Ae (.mk 15 t n ps fs vs):=by
 refine Bb 15 t n ps fs vs hp hf hv fun K w A c A' c' A'' c'' w1 h=>?_;obtain⟨HXC,KAll,KPl,KNm,KOb,KBi,KOv,HREP,HCN,HBZ,HB,HS1,HX0,HW1,hlp,hlf,hlv⟩:=h;clear hp hf hv;have hC:Z9 (Aj (.mk 15 t n ps fs vs)=false):=Hd (by
  rw[Ay,show Ak 15=⟨false,false,false,false,2,-1,true⟩ from rfl,hE];unfold Ao Bs;simp[hH,hI,hF,hD])
 obtain⟨f1,f2,f3,f4⟩:=F7 (m:=fs.length) (n:=vs.length) (by omega) (by omega);rw[hE]at KAll;have ep:(t.toList == [] && n == 0)=false:=by rw[hF];simpa using hD
 rw[ep]at KPl;try clear hH
 try clear hI
 try clear hnp
 try clear hD
 try clear hE
 try clear hF
 go_enter Tryz.func38,Tryz.ntmps38;go_upto_region 1 with fail
 rw[<-HW1.o];obtain⟨x0,x1,x2,x3,x4,x5⟩:=HXC.o _ HB.o;go_wp2_with fail;refine (KAll.o _ HB.o).mono ?_;rintro e w2 ⟨rfl,hb⟩;have hB:=Hd (HB.o.trans (hb.mono HB.o.size));clear hb;clear x0 x1 x2 x3 x4 x5;obtain⟨x0,x1,x2,x3,x4,x5⟩:=HXC.o _ hB.o;go_wp2_with fail;clear x0 x1 x2 x3 x4 x5;refine wp_region_held_drew (S:=(fun w'=>w'.cell? ⟨w.heap.size,0,none⟩=some (.int .i64 15)/\w'.cell? ⟨w.heap.size,1,none⟩=some (.string t)/\w'.cell? ⟨w.heap.size,2,none⟩=some (.int .i64 n)/\w'.cell? ⟨w.heap.size,3,none⟩=some (.slice A ps.length c)/\w'.cell? ⟨w.heap.size,4,none⟩=some (.slice A' fs.length c')/\w'.cell? ⟨w.heap.size,5,none⟩=some (.slice A'' vs.length c''))) (by kernel_rfl) (HXC.o _ hB.o.drew) (fun hA=>?_);refine Ab.s [0] ?_;refine Ab.k (so rfl) hA ?_;try simp only[Act.put,Bd,Be,Bf]
 refine Ab.d ?_;refine wpAnyH_ready (rs:=[1]) (by kernel_rfl) (by simp) ?_;refine AllReadyH.cons (sd (some 115) rfl) (fun K hK=>?_) AllReadyH.nil;go_simp;refine (KPl.o _).mono ?_;rintro e w4 ⟨rfl,hb⟩;have hG:=Hd (hB.o.drew.trans (hb.mono hB.o.drew.size));clear hb;go_wp2_with fail;refine hK.out _ _ (HXC.o _ hG.o) (fun hA=>?_);clear hK K;try simp only[Act.put,Bd,Be,Bf]
 refine Ab.s [2] ?_;refine Ab.k (so rfl) hA ?_;try simp only[Act.put,Bd,Be,Bf]
 refine Ab.d ?_;refine Ab.s [3,4] ?_
 iterate 2 (refine Ab.t (v:=undef) (so rfl) (by kernel_rfl) (by kernel_rfl) (by kernel_rfl) (fun _ _ _ h=>h) (Or.inr ⟨by rfl,rfl⟩) hA ?_;try simp only[Act.put,Bd,Be,Bf])
 refine Ab.d ?_;refine Ab.s [5,6] ?_
 iterate 2 (refine Ab.k (so rfl) hA ?_;try simp only[Act.put,Bd,Be,Bf])
 refine Ab.d ?_;refine Ab.s [7,8,9,10,11,12] ?_
 iterate 6 (refine Ab.t (v:=undef) (so rfl) (by kernel_rfl) (by kernel_rfl) (by kernel_rfl) (fun _ _ _ h=>h) (Or.inr ⟨by rfl,rfl⟩) hA ?_;try simp only[Act.put,Bd,Be,Bf])
 refine Ab.d ?_;refine Ab.s [13,14] ?_
 iterate 2 (refine Ab.k (so rfl) hA ?_;try simp only[Act.put,Bd,Be,Bf])
 refine Ab.d ?_;refine wpAnyH_done (by kernel_rfl) ?_ _;clear hA;go_wp2_with fail;go_ret
 exact⟨by rw[hC.o];rfl,HBZ.o.trans (hG.o.mono HBZ.o.size)⟩
theorem Y0 (t:Z8) (n:Int) (ps:List Ty) (fs:Bx) (vs:Bt) (hp:∀p∈ps,Ae p) (hf:∀f∈fs,Ae f.2.2) (hv:∀v∈vs,∀b∈v.2,Ae b) (hH:fs.length=0) (hI:vs.length=0) (hE:ps.all Aj=true) (hF:t.toList=[]) (hD:n=0) (hJ:¬ 2<=ps.length):Ae (.mk 15 t n ps fs vs):=by
 refine Bb 15 t n ps fs vs hp hf hv fun K w A c A' c' A'' c'' w1 h=>?_;obtain⟨HXC,KAll,KPl,KNm,KOb,KBi,KOv,HREP,HCN,HBZ,HB,HS1,HX0,HW1,hlp,hlf,hlv⟩:=h;clear hp hf hv;have hC:Z9 (Aj (.mk 15 t n ps fs vs)=false):=Hd (by
  rw[Ay,show Ak 15=⟨false,false,false,false,2,-1,true⟩ from rfl,hE];unfold Ao Bs;simp[hH,hI,hF,hD];omega)
 obtain⟨f1,f2,f3,f4⟩:=F7 (m:=fs.length) (n:=vs.length) (by omega) (by omega);rw[hE]at KAll;have ep:(t.toList == [] && n == 0)=true:=by rw[hF,hD];rfl
 rw[ep]at KPl;have p1:decide ((2:Int)<=(ps.length:Int))=false:=decide_eq_false (by omega);have p2:decide (2<=ps.length)=false:=decide_eq_false (by omega);try clear hH
 try clear hI
 try clear hJ
 try clear hD
 try clear hE
 try clear hF
 go_enter Tryz.func38,Tryz.ntmps38;go_upto_region 1 with fail
 rw[<-HW1.o];obtain⟨x0,x1,x2,x3,x4,x5⟩:=HXC.o _ HB.o;go_wp2_with fail;refine (KAll.o _ HB.o).mono ?_;rintro e w2 ⟨rfl,hb⟩;have hB:=Hd (HB.o.trans (hb.mono HB.o.size));clear hb;clear x0 x1 x2 x3 x4 x5;obtain⟨x0,x1,x2,x3,x4,x5⟩:=HXC.o _ hB.o;go_wp2_with fail;clear x0 x1 x2 x3 x4 x5;refine wp_region_held_drew (S:=(fun w'=>w'.cell? ⟨w.heap.size,0,none⟩=some (.int .i64 15)/\w'.cell? ⟨w.heap.size,1,none⟩=some (.string t)/\w'.cell? ⟨w.heap.size,2,none⟩=some (.int .i64 n)/\w'.cell? ⟨w.heap.size,3,none⟩=some (.slice A ps.length c)/\w'.cell? ⟨w.heap.size,4,none⟩=some (.slice A' fs.length c')/\w'.cell? ⟨w.heap.size,5,none⟩=some (.slice A'' vs.length c''))) (by kernel_rfl) (HXC.o _ hB.o.drew) (fun hA=>?_);refine Ab.s [0] ?_;refine Ab.k (so rfl) hA ?_;try simp only[Act.put,Bd,Be,Bf]
 refine Ab.d ?_;refine wpAnyH_ready (rs:=[1]) (by kernel_rfl) (by simp) ?_;refine AllReadyH.cons (sd (some 115) rfl) (fun K hK=>?_) AllReadyH.nil;go_simp;refine (KPl.o _).mono ?_;rintro e w4 ⟨rfl,hb⟩;have hG:=Hd (hB.o.drew.trans (hb.mono hB.o.drew.size));clear hb;go_wp2_with fail;refine hK.out _ _ (HXC.o _ hG.o) (fun hA=>?_);clear hK K;try simp only[Act.put,Bd,Be,Bf]
 refine Ab.s [2,3,4,5,6] ?_
 iterate 5 (refine Ab.k (so rfl) hA ?_;try simp only[Act.put,Bd,Be,Bf])
 refine Ab.d ?_;refine Ab.s [7,8,9,10,11,12] ?_
 iterate 6 (refine Ab.t (v:=undef) (so rfl) (by kernel_rfl) (by kernel_rfl) (by kernel_rfl) (fun _ _ _ h=>h) (Or.inr ⟨by rfl,rfl⟩) hA ?_;try simp only[Act.put,Bd,Be,Bf])
 refine Ab.d ?_;refine Ab.s [13,14] ?_
 iterate 2 (refine Ab.k (so rfl) hA ?_;try simp only[Act.put,Bd,Be,Bf])
 refine Ab.d ?_;refine wpAnyH_done (by kernel_rfl) ?_ _;clear hA;go_wp2_with fail;go_ret
 exact⟨by rw[hC.o];rfl,HBZ.o.trans (hG.o.mono HBZ.o.size)⟩
theorem Y2 (t:Z8) (n:Int) (ps:List Ty) (fs:Bx) (vs:Bt) (hp:∀p∈ps,Ae p) (hf:∀f∈fs,Ae f.2.2) (hv:∀v∈vs,∀b∈v.2,Ae b) (hW:fs.length=0) (hY:vs.length=0) (hD:ps.all Aj=true) (hI:t.toList=[]) (hP:n=0) (hX:2<=ps.length):Ae (.mk 15 t n ps fs vs):=by
 refine Bb 15 t n ps fs vs hp hf hv fun K w A c A' c' A'' c'' w1 h=>?_;obtain⟨HXC,KAll,KPl,KNm,KOb,KBi,KOv,HREP,HCN,HBZ,HB,HS1,HX0,HW1,hlp,hlf,hlv⟩:=h;clear hp hf hv;have hF:∀x∈ps,Aj x=true:=List.all_eq_true.1 hD;have hB:=J7 ps;have hO:Au ps<=1000000:=by have:=HCN.o;omega
 have kA:=Aw.low _ _ HREP.o;obtain⟨B,d,B',d',B'',d'',he,-,hU,-,-⟩:=kA.inv;have kB:A=B/\c=d:=by simp only[Az,List.cons.injEq,Value.slice.injEq]at he;exact⟨he.2.2.2.1.1,he.2.2.2.1.2.2⟩
 obtain⟨rfl,rfl⟩:=kB;have hM:=Hd fun wx (hx:Below w1.heap.size w1 wx)=>Xm (hU.later (HBZ.o.trans (hx.mono HBZ.o.size))) (fun b hb=>by have:=HBZ.o.size;have:=hx.size;omega) (fun x kE=>by have h1:=Er x;have h2:=hB.2 x kE;omega) (by have:=hB.1;omega);rw[Jaq (M1 hD)]at hM;generalize hQ:E5 ps=u at hM;obtain⟨k2,s2,n2,hR,hN,hS⟩:=u;have kF:Z9 (Jz (Eh (Gu ps))=.mk k2 s2 n2 hR hN hS):=Hd (by rw[Jaq (M1 hD),hQ]);obtain⟨z,hz⟩:∃z,B5 (.mk k2 s2 n2 hR hN hS) (.mk 15 t n ps fs vs)=z:=⟨_,rfl⟩;have HZ:=Hd hz;have hL:Z9 (Aj (.mk 15 t n ps fs vs)=(z == 0)):=Hd (by
  have ht:t=Bv:=E7 (by rw[ByteArray.toList_eq]at hI;rw[hI];rfl);have kC:fs=[]:=List.eq_nil_of_length_eq_zero hW;have kD:vs=[]:=List.eq_nil_of_length_eq_zero hY;subst ht hP kC kD;have h1:Aj (.mk 15 Bv 0 ps [] [])=H5 ps:=by
   rw[Ay,show Ak 15=⟨false,false,false,false,2,-1,true⟩ from rfl,hD];unfold Ao Bs;simp[Mh];omega
  rw[h1,Bool.eq_iff_iff,Om hX,hQ,<-hz,beq_iff_eq];exact C5.symm)
 obtain⟨f1,f2,f3,f4⟩:=F7 (m:=fs.length) (n:=vs.length) (by omega) (by omega);rw[hD]at KAll;have ep:(t.toList == [] && n == 0)=true:=by rw[hI,hP];rfl
 rw[ep]at KPl;have p1:decide ((2:Int)<=(ps.length:Int))=true:=decide_eq_true (by omega);have p2:decide (2<=ps.length)=true:=decide_eq_true (by omega);clear hF hB hO kA hU he hQ hz;try clear hW
 try clear hY
 try clear hX
 try clear hP
 try clear hD
 try clear hI
 go_enter Tryz.func38,Tryz.ntmps38;go_upto_region 1 with fail
 rw[<-HW1.o];obtain⟨x0,x1,x2,x3,x4,x5⟩:=HXC.o _ HB.o;go_wp2_with fail;refine (KAll.o _ HB.o).mono ?_;rintro e w2 ⟨rfl,hb⟩;have hG:=Hd (HB.o.trans (hb.mono HB.o.size));clear hb;clear x0 x1 x2 x3 x4 x5;obtain⟨x0,x1,x2,x3,x4,x5⟩:=HXC.o _ hG.o;go_wp2_with fail;clear x0 x1 x2 x3 x4 x5;refine wp_region_held_drew (S:=(fun w'=>w'.cell? ⟨w.heap.size,0,none⟩=some (.int .i64 15)/\w'.cell? ⟨w.heap.size,1,none⟩=some (.string t)/\w'.cell? ⟨w.heap.size,2,none⟩=some (.int .i64 n)/\w'.cell? ⟨w.heap.size,3,none⟩=some (.slice A ps.length c)/\w'.cell? ⟨w.heap.size,4,none⟩=some (.slice A' fs.length c')/\w'.cell? ⟨w.heap.size,5,none⟩=some (.slice A'' vs.length c''))) (by kernel_rfl) (HXC.o _ hG.o.drew) (fun hA=>?_);refine Ab.s [0] ?_;refine Ab.k (so rfl) hA ?_;try simp only[Act.put,Bd,Be,Bf]
 refine Ab.d ?_;refine wpAnyH_ready (rs:=[1]) (by kernel_rfl) (by simp) ?_;refine AllReadyH.cons (sd (some 115) rfl) (fun K hK=>?_) AllReadyH.nil;go_simp;refine (KPl.o _).mono ?_;rintro e w4 ⟨rfl,hb⟩;have hH:=Hd (hG.o.drew.trans (hb.mono hG.o.drew.size));clear hb;go_wp2_with fail;refine hK.out _ _ (HXC.o _ hH.o) (fun hA=>?_);clear hK K;try simp only[Act.put,Bd,Be,Bf]
 refine Ab.s [2,3,4,5,6,7,8,10] ?_
 iterate 8 (refine Ab.k (so rfl) hA ?_;try simp only[Act.put,Bd,Be,Bf])
 refine Ab.d ?_;refine wpAnyH_ready (rs:=[9]) (by kernel_rfl) (by simp) ?_;refine AllReadyH.cons (sd (some 123) rfl) (fun K hK=>?_) AllReadyH.nil;go_simp;refine (hM.o _ hH.o).mono ?_;rintro e w5 ⟨rs,rfl,hZ,hb⟩;have hE:=Hd (hH.o.trans (hb.mono hH.o.size));have hJ:=Hd hZ;clear hb hZ;obtain⟨Aq,cq,Ag,cg,Ah,ch,rfl,-⟩:=hJ.o.inv;simp only[Az]at hJ ⊢;have hC:=Hd fun wx (hx:Below w5.heap.size w5 wx)=>Ke (.mk k2 s2 n2 hR hN hS) _ _ (.mk 15 t n ps fs vs) wx _ _ (hJ.o.later hx) (HREP.o.later (HBZ.o.trans ((hE.o.trans (hx.mono hE.o.size)).mono HBZ.o.size)));try simp only[Az]at hC
 rw[HZ.o]at hC;go_wp2_with fail;refine hK.out _ _ (HXC.o _ hE.o) (fun hA=>?_);clear hK K;try simp only[Act.put,Bd,Be,Bf]
 refine wpAnyH_ready (rs:=[11]) (by kernel_rfl) (by simp) ?_;refine AllReadyH.cons (sd (some 125) rfl) (fun K hK=>?_) AllReadyH.nil;go_simp;refine (hC.o _ (Below.refl _ _)).mono ?_;rintro e w6 ⟨rfl,hV⟩;have hT:=Hd (hE.o.trans (hV.below.mono hE.o.size));clear hV;go_wp2_with fail;refine hK.out _ _ (HXC.o _ hT.o) (fun hA=>?_);clear hK K;try simp only[Act.put,Bd,Be,Bf]
 refine Ab.s [12,13,14] ?_
 iterate 3 (refine Ab.k (so rfl) hA ?_;try simp only[Act.put,Bd,Be,Bf])
 refine Ab.d ?_;refine wpAnyH_done (by kernel_rfl) ?_ _;clear hA;go_wp2_with fail;go_ret
 exact⟨by rw[hL.o];rfl,HBZ.o.trans (hT.o.mono HBZ.o.size)⟩
