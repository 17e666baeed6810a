import Derived.Test.YtlpfpehegddcfaaGreatDoorMw24
namespace Go.Proofs.YtlpfpehegddcfaaGreatDoor
set_option maxRecDepth 100000
set_option maxHeartbeats 64000000
open Go.RowKit
theorem Jal (t:Z8) (n:Int) (ps:List Ty) (fs:Bv) (vs:Bw) (hp:∀p∈ps,Aj p) (hf:∀f∈fs,Aj f.2.2) (hv:∀v∈vs,∀b∈v.2,Aj b) (hE:fs.length=0) (hF:vs.length=0) (hC:ps.all Ai=true) (hB:Ca t=false):Aj (.mk 20 t n ps fs vs):=by
 refine Bc 20 t n ps fs vs hp hf hv fun K w A c A' c' A'' c'' w1 h=>?_;obtain⟨HXC,KAll,KPl,KNm,KOb,KBi,KOv,HREP,HCN,HBZ,HB,HS1,HX0,HW1,hlp,hlf,hlv⟩:=h;clear hp hf hv;have hA:Z9 (Ai (.mk 20 t n ps fs vs)=false):=Hd (by
  rw[Aw,show Ak 20=⟨true,true,false,false,2,2,true⟩ from rfl,hC];unfold Ar Bq;simp[hE,hF,hB])
 obtain⟨f1,f2,f3,f4⟩:=Gl (m:=fs.length) (n:=vs.length) (by omega) (by omega);rw[hC]at KAll;rw[hB]at KNm;clear hE hF hC hB;go_enter Tryz.func38,Tryz.ntmps38;go_upto_region 1 with fail
 rw[<-HW1.o];obtain⟨x0,x1,x2,x3,x4,x5⟩:=HXC.o _ HB.o;go_wp2_with fail;refine (KAll.o _ HB.o).mono ?_;rintro e w2 ⟨rfl,hb⟩;have HB1:=Hd (HB.o.trans (hb.mono HB.o.size));clear hb;clear x0 x1 x2 x3 x4 x5;obtain⟨x0,x1,x2,x3,x4,x5⟩:=HXC.o _ HB1.o;go_wp2_with fail;refine (KNm.o _).mono ?_;rintro e w3 ⟨rfl,hb⟩;have hD:=Hd (HB1.o.trans (hb.mono HB1.o.size));clear hb;clear x0 x1 x2 x3 x4 x5;obtain⟨x0,x1,x2,x3,x4,x5⟩:=HXC.o _ hD.o;go_wp2_with fail;go_ret
 exact⟨by rw[hA.o];rfl,HBZ.o.trans (hD.o.mono HBZ.o.size)⟩
theorem Jam (t:Z8) (n:Int) (ps:List Ty) (fs:Bv) (vs:Bw) (hp:∀p∈ps,Aj p) (hf:∀f∈fs,Aj f.2.2) (hv:∀v∈vs,∀b∈v.2,Aj b) (hE:fs.length=0) (hF:vs.length=0) (hC:ps.all Ai=true) (hB:Ca t=true) (hG:¬ 0<=n):Aj (.mk 20 t n ps fs vs):=by
 refine Bc 20 t n ps fs vs hp hf hv fun K w A c A' c' A'' c'' w1 h=>?_;obtain⟨HXC,KAll,KPl,KNm,KOb,KBi,KOv,HREP,HCN,HBZ,HB,HS1,HX0,HW1,hlp,hlf,hlv⟩:=h;clear hp hf hv;have hA:Z9 (Ai (.mk 20 t n ps fs vs)=false):=Hd (by
  rw[Aw,show Ak 20=⟨true,true,false,false,2,2,true⟩ from rfl,hC];unfold Ar Bq;simp[hE,hF,hB];omega)
 obtain⟨f1,f2,f3,f4⟩:=Gl (m:=fs.length) (n:=vs.length) (by omega) (by omega);rw[hC]at KAll;rw[hB]at KNm;have f5:decide (0<=n)=false:=by first|exact decide_eq_true (by omega)|exact decide_eq_false (by omega)
 clear hE hF hG hC hB;go_enter Tryz.func38,Tryz.ntmps38;go_upto_region 1 with fail
 rw[<-HW1.o];obtain⟨x0,x1,x2,x3,x4,x5⟩:=HXC.o _ HB.o;go_wp2_with fail;refine (KAll.o _ HB.o).mono ?_;rintro e w2 ⟨rfl,hb⟩;have HB1:=Hd (HB.o.trans (hb.mono HB.o.size));clear hb;clear x0 x1 x2 x3 x4 x5;obtain⟨x0,x1,x2,x3,x4,x5⟩:=HXC.o _ HB1.o;go_wp2_with fail;refine (KNm.o _).mono ?_;rintro e w3 ⟨rfl,hb⟩;have hD:=Hd (HB1.o.trans (hb.mono HB1.o.size));clear hb;clear x0 x1 x2 x3 x4 x5;obtain⟨x0,x1,x2,x3,x4,x5⟩:=HXC.o _ hD.o;go_wp2_with fail;go_ret
 exact⟨by rw[hA.o];rfl,HBZ.o.trans (hD.o.mono HBZ.o.size)⟩
theorem Jan (t:Z8) (n:Int) (ps:List Ty) (fs:Bv) (vs:Bw) (hp:∀p∈ps,Aj p) (hf:∀f∈fs,Aj f.2.2) (hv:∀v∈vs,∀b∈v.2,Aj b) (hE:fs.length=0) (hF:vs.length=0) (hC:ps.all Ai=true) (hB:Ca t=true) (hG:0<=n) (hH:¬ n<=3):Aj (.mk 20 t n ps fs vs):=by
 refine Bc 20 t n ps fs vs hp hf hv fun K w A c A' c' A'' c'' w1 h=>?_;obtain⟨HXC,KAll,KPl,KNm,KOb,KBi,KOv,HREP,HCN,HBZ,HB,HS1,HX0,HW1,hlp,hlf,hlv⟩:=h;clear hp hf hv;have hA:Z9 (Ai (.mk 20 t n ps fs vs)=false):=Hd (by
  rw[Aw,show Ak 20=⟨true,true,false,false,2,2,true⟩ from rfl,hC];unfold Ar Bq;simp[hE,hF,hB];omega)
 obtain⟨f1,f2,f3,f4⟩:=Gl (m:=fs.length) (n:=vs.length) (by omega) (by omega);rw[hC]at KAll;rw[hB]at KNm;have f5:decide (0<=n)=true:=by first|exact decide_eq_true (by omega)|exact decide_eq_false (by omega)
 have f6:decide (n<=3)=false:=by first|exact decide_eq_true (by omega)|exact decide_eq_false (by omega)
 clear hE hF hG hH hC hB;go_enter Tryz.func38,Tryz.ntmps38;go_upto_region 1 with fail
 rw[<-HW1.o];obtain⟨x0,x1,x2,x3,x4,x5⟩:=HXC.o _ HB.o;go_wp2_with fail;refine (KAll.o _ HB.o).mono ?_;rintro e w2 ⟨rfl,hb⟩;have HB1:=Hd (HB.o.trans (hb.mono HB.o.size));clear hb;clear x0 x1 x2 x3 x4 x5;obtain⟨x0,x1,x2,x3,x4,x5⟩:=HXC.o _ HB1.o;go_wp2_with fail;refine (KNm.o _).mono ?_;rintro e w3 ⟨rfl,hb⟩;have hD:=Hd (HB1.o.trans (hb.mono HB1.o.size));clear hb;clear x0 x1 x2 x3 x4 x5;obtain⟨x0,x1,x2,x3,x4,x5⟩:=HXC.o _ hD.o;go_wp2_with fail;go_ret
 exact⟨by rw[hA.o];rfl,HBZ.o.trans (hD.o.mono HBZ.o.size)⟩
theorem Jao (t:Z8) (n:Int) (ps:List Ty) (fs:Bv) (vs:Bw) (hp:∀p∈ps,Aj p) (hf:∀f∈fs,Aj f.2.2) (hv:∀v∈vs,∀b∈v.2,Aj b) (hE:fs.length=0) (hF:vs.length=0) (hC:ps.all Ai=true) (hB:Ca t=true) (hG:0<=n) (hH:n<=3) (hI:ps.length≠2):Aj (.mk 20 t n ps fs vs):=by
 refine Bc 20 t n ps fs vs hp hf hv fun K w A c A' c' A'' c'' w1 h=>?_;obtain⟨HXC,KAll,KPl,KNm,KOb,KBi,KOv,HREP,HCN,HBZ,HB,HS1,HX0,HW1,hlp,hlf,hlv⟩:=h;clear hp hf hv;have hA:Z9 (Ai (.mk 20 t n ps fs vs)=false):=Hd (by
  rw[Aw,show Ak 20=⟨true,true,false,false,2,2,true⟩ from rfl,hC];unfold Ar Bq;simp[hE,hF,hB];omega)
 obtain⟨f1,f2,f3,f4⟩:=Gl (m:=fs.length) (n:=vs.length) (by omega) (by omega);rw[hC]at KAll;rw[hB]at KNm;have f5:decide (0<=n)=true:=by first|exact decide_eq_true (by omega)|exact decide_eq_false (by omega)
 have f6:decide (n<=3)=true:=by first|exact decide_eq_true (by omega)|exact decide_eq_false (by omega)
 have p1:((ps.length:Int) == 2)=false:=beq_eq_false_iff_ne.2 (by omega);have p2:(ps.length == 2)=false:=beq_eq_false_iff_ne.2 (by omega);have p3:decide (ps.length=2)=false:=decide_eq_false (by omega);have p4:decide ((ps.length:Int)=2)=false:=decide_eq_false (by omega);clear hE hF hI hG hH hC hB;go_enter Tryz.func38,Tryz.ntmps38;go_upto_region 1 with fail
 rw[<-HW1.o];obtain⟨x0,x1,x2,x3,x4,x5⟩:=HXC.o _ HB.o;go_wp2_with fail;refine (KAll.o _ HB.o).mono ?_;rintro e w2 ⟨rfl,hb⟩;have HB1:=Hd (HB.o.trans (hb.mono HB.o.size));clear hb;clear x0 x1 x2 x3 x4 x5;obtain⟨x0,x1,x2,x3,x4,x5⟩:=HXC.o _ HB1.o;go_wp2_with fail;refine (KNm.o _).mono ?_;rintro e w3 ⟨rfl,hb⟩;have hD:=Hd (HB1.o.trans (hb.mono HB1.o.size));clear hb;clear x0 x1 x2 x3 x4 x5;obtain⟨x0,x1,x2,x3,x4,x5⟩:=HXC.o _ hD.o;go_wp2_with fail;go_ret
 exact⟨by rw[hA.o];rfl,HBZ.o.trans (hD.o.mono HBZ.o.size)⟩
theorem Jap (t:Z8) (n:Int) (ps:List Ty) (fs:Bv) (vs:Bw) (hp:∀p∈ps,Aj p) (hf:∀f∈fs,Aj f.2.2) (hv:∀v∈vs,∀b∈v.2,Aj b) (hE:fs.length=0) (hG:vs.length=0) (hC:ps.all Ai=true) (hB:Ca t=true) (hH:0<=n) (hI:n<=3) (hF:ps.length=2):Aj (.mk 20 t n ps fs vs):=by
 refine Bc 20 t n ps fs vs hp hf hv fun K w A c A' c' A'' c'' w1 h=>?_;obtain⟨HXC,KAll,KPl,KNm,KOb,KBi,KOv,HREP,HCN,HBZ,HB,HS1,HX0,HW1,hlp,hlf,hlv⟩:=h;clear hp hf hv;have hA:Z9 (Ai (.mk 20 t n ps fs vs)=true):=Hd (by
  rw[Aw,show Ak 20=⟨true,true,false,false,2,2,true⟩ from rfl,hC];unfold Ar Bq;simp[hE,hG,hB,hF];omega)
 obtain⟨f1,f2,f3,f4⟩:=Gl (m:=fs.length) (n:=vs.length) (by omega) (by omega);rw[hC]at KAll;rw[hB]at KNm;have f5:decide (0<=n)=true:=by first|exact decide_eq_true (by omega)|exact decide_eq_false (by omega)
 have f6:decide (n<=3)=true:=by first|exact decide_eq_true (by omega)|exact decide_eq_false (by omega)
 have p1:((ps.length:Int) == 2)=true:=beq_iff_eq.2 (by omega);have p2:(ps.length == 2)=true:=beq_iff_eq.2 (by omega);have p3:decide (ps.length=2)=true:=decide_eq_true (by omega);have p4:decide ((ps.length:Int)=2)=true:=decide_eq_true (by omega);clear hE hG hF hH hI hC hB;go_enter Tryz.func38,Tryz.ntmps38;go_upto_region 1 with fail
 rw[<-HW1.o];obtain⟨x0,x1,x2,x3,x4,x5⟩:=HXC.o _ HB.o;go_wp2_with fail;refine (KAll.o _ HB.o).mono ?_;rintro e w2 ⟨rfl,hb⟩;have HB1:=Hd (HB.o.trans (hb.mono HB.o.size));clear hb;clear x0 x1 x2 x3 x4 x5;obtain⟨x0,x1,x2,x3,x4,x5⟩:=HXC.o _ HB1.o;go_wp2_with fail;refine (KNm.o _).mono ?_;rintro e w3 ⟨rfl,hb⟩;have hD:=Hd (HB1.o.trans (hb.mono HB1.o.size));clear hb;clear x0 x1 x2 x3 x4 x5;obtain⟨x0,x1,x2,x3,x4,x5⟩:=HXC.o _ hD.o;go_wp2_with fail;go_ret
 exact⟨by rw[hA.o];rfl,HBZ.o.trans (hD.o.mono HBZ.o.size)⟩
theorem Jat (t:Z8) (n:Int) (ps:List Ty) (fs:Bv) (vs:Bw) (hp:∀p∈ps,Aj p) (hf:∀f∈fs,Aj f.2.2) (hv:∀v∈vs,∀b∈v.2,Aj b) (hC:fs.length=0) (hD:vs.length=0) (hB:ps.all Ai=true) (hE:ps.length≠4):Aj (.mk 21 t n ps fs vs):=by
 refine Bc 21 t n ps fs vs hp hf hv fun K w A c A' c' A'' c'' w1 h=>?_;obtain⟨HXC,KAll,KPl,KNm,KOb,KBi,KOv,HREP,HCN,HBZ,HB,HS1,HX0,HW1,hlp,hlf,hlv⟩:=h;clear hp hf hv;have hA:Z9 (Ai (.mk 21 t n ps fs vs)=false):=Hd (by
  rw[Aw,show Ak 21=⟨true,true,false,false,4,4,true⟩ from rfl,hB];unfold Ar Bq;simp[hC,hD];omega)
 obtain⟨f1,f2,f3,f4⟩:=Gl (m:=fs.length) (n:=vs.length) (by omega) (by omega);rw[hB]at KAll;have p1:((ps.length:Int) == 4)=false:=beq_eq_false_iff_ne.2 (by omega);have p2:(ps.length == 4)=false:=beq_eq_false_iff_ne.2 (by omega);have p3:decide (ps.length=4)=false:=decide_eq_false (by omega);have p4:decide ((ps.length:Int)=4)=false:=decide_eq_false (by omega);clear hC hD hE hB;go_enter Tryz.func38,Tryz.ntmps38;go_upto_region 1 with fail
 rw[<-HW1.o];obtain⟨x0,x1,x2,x3,x4,x5⟩:=HXC.o _ HB.o;go_wp2_with fail;refine (KAll.o _ HB.o).mono ?_;rintro e w2 ⟨rfl,hb⟩;have HB1:=Hd (HB.o.trans (hb.mono HB.o.size));clear hb;clear x0 x1 x2 x3 x4 x5;obtain⟨x0,x1,x2,x3,x4,x5⟩:=HXC.o _ HB1.o;go_wp2_with fail;go_ret
 exact⟨by rw[hA.o];rfl,HBZ.o.trans (HB1.o.mono HBZ.o.size)⟩
theorem Jaq (t:Z8) (n:Int) (ps:List Ty) (fs:Bv) (vs:Bw) (hp:∀p∈ps,Aj p) (hf:∀f∈fs,Aj f.2.2) (hv:∀v∈vs,∀b∈v.2,Aj b) (hD:fs.length=0) (hF:vs.length=0) (hC:ps.all Ai=true) (hE:ps.length=4) (hB:n=0) (hG:t.toList=[]):Aj (.mk 21 t n ps fs vs):=by
 refine Bc 21 t n ps fs vs hp hf hv fun K w A c A' c' A'' c'' w1 h=>?_;obtain⟨HXC,KAll,KPl,KNm,KOb,KBi,KOv,HREP,HCN,HBZ,HB,HS1,HX0,HW1,hlp,hlf,hlv⟩:=h;clear hp hf hv;have hA:Z9 (Ai (.mk 21 t n ps fs vs)=true):=Hd (by
  rw[Aw,show Ak 21=⟨true,true,false,false,4,4,true⟩ from rfl,hC];unfold Ar Bq;simp[hD,hF,hE,hB,hG])
 obtain⟨f1,f2,f3,f4⟩:=Gl (m:=fs.length) (n:=vs.length) (by omega) (by omega);rw[hC]at KAll;have f5:(n == 0)=true:=by simpa using hB
 have p1:((ps.length:Int) == 4)=true:=beq_iff_eq.2 (by omega);have p2:(ps.length == 4)=true:=beq_iff_eq.2 (by omega);have p3:decide (ps.length=4)=true:=decide_eq_true (by omega);have p4:decide ((ps.length:Int)=4)=true:=decide_eq_true (by omega);clear hD hF hE hB hC;go_enter Tryz.func38,Tryz.ntmps38;go_upto_region 1 with fail
 rw[<-HW1.o];obtain⟨x0,x1,x2,x3,x4,x5⟩:=HXC.o _ HB.o;go_wp2_with fail;refine (KAll.o _ HB.o).mono ?_;rintro e w2 ⟨rfl,hb⟩;have HB1:=Hd (HB.o.trans (hb.mono HB.o.size));clear hb;clear x0 x1 x2 x3 x4 x5;obtain⟨x0,x1,x2,x3,x4,x5⟩:=HXC.o _ HB1.o;go_wp2_with fail;go_ret
 exact⟨by rw[hA.o];rfl,HBZ.o.trans (HB1.o.mono HBZ.o.size)⟩
theorem Jar (t:Z8) (n:Int) (ps:List Ty) (fs:Bv) (vs:Bw) (hp:∀p∈ps,Aj p) (hf:∀f∈fs,Aj f.2.2) (hv:∀v∈vs,∀b∈v.2,Aj b) (hD:fs.length=0) (hF:vs.length=0) (hB:ps.all Ai=true) (hE:ps.length=4) (hC:n=0) (a0:UInt8) (l0:List UInt8) (hG:t.toList=a0 :: l0):Aj (.mk 21 t n ps fs vs):=by
 refine Bc 21 t n ps fs vs hp hf hv fun K w A c A' c' A'' c'' w1 h=>?_;obtain⟨HXC,KAll,KPl,KNm,KOb,KBi,KOv,HREP,HCN,HBZ,HB,HS1,HX0,HW1,hlp,hlf,hlv⟩:=h;clear hp hf hv;have hA:Z9 (Ai (.mk 21 t n ps fs vs)=false):=Hd (by
  rw[Aw,show Ak 21=⟨true,true,false,false,4,4,true⟩ from rfl,hB];unfold Ar Bq;simp[hD,hF,hE,hC,hG])
 obtain⟨f1,f2,f3,f4⟩:=Gl (m:=fs.length) (n:=vs.length) (by omega) (by omega);rw[hB]at KAll;subst hC;have p1:((ps.length:Int) == 4)=true:=beq_iff_eq.2 (by omega);have p2:(ps.length == 4)=true:=beq_iff_eq.2 (by omega);have p3:decide (ps.length=4)=true:=decide_eq_true (by omega);have p4:decide ((ps.length:Int)=4)=true:=decide_eq_true (by omega);clear hD hF hE hB;go_enter Tryz.func38,Tryz.ntmps38;go_upto_region 1 with fail
 rw[<-HW1.o];obtain⟨x0,x1,x2,x3,x4,x5⟩:=HXC.o _ HB.o;go_wp2_with fail;refine (KAll.o _ HB.o).mono ?_;rintro e w2 ⟨rfl,hb⟩;have HB1:=Hd (HB.o.trans (hb.mono HB.o.size));clear hb;clear x0 x1 x2 x3 x4 x5;obtain⟨x0,x1,x2,x3,x4,x5⟩:=HXC.o _ HB1.o;go_wp2_with fail;go_ret
 exact⟨by rw[hA.o];rfl,HBZ.o.trans (HB1.o.mono HBZ.o.size)⟩
theorem Jas (t:Z8) (n:Int) (ps:List Ty) (fs:Bv) (vs:Bw) (hp:∀p∈ps,Aj p) (hf:∀f∈fs,Aj f.2.2) (hv:∀v∈vs,∀b∈v.2,Aj b) (hE:fs.length=0) (hG:vs.length=0) (hD:ps.all Ai=true) (hF:ps.length=4) (hB:n≠0) (hC:n≠1):Aj (.mk 21 t n ps fs vs):=by
 refine Bc 21 t n ps fs vs hp hf hv fun K w A c A' c' A'' c'' w1 h=>?_;obtain⟨HXC,KAll,KPl,KNm,KOb,KBi,KOv,HREP,HCN,HBZ,HB,HS1,HX0,HW1,hlp,hlf,hlv⟩:=h;clear hp hf hv;have hA:Z9 (Ai (.mk 21 t n ps fs vs)=false):=Hd (by
  rw[Aw,show Ak 21=⟨true,true,false,false,4,4,true⟩ from rfl,hD];unfold Ar Bq;simp[hE,hG,hF,hB,hC])
 obtain⟨f1,f2,f3,f4⟩:=Gl (m:=fs.length) (n:=vs.length) (by omega) (by omega);rw[hD]at KAll;have f5:(n == 0)=false:=by simpa using hB
 have f7:(n == 1)=false:=by simpa using hC
 have p1:((ps.length:Int) == 4)=true:=beq_iff_eq.2 (by omega);have p2:(ps.length == 4)=true:=beq_iff_eq.2 (by omega);have p3:decide (ps.length=4)=true:=decide_eq_true (by omega);have p4:decide ((ps.length:Int)=4)=true:=decide_eq_true (by omega);clear hE hG hF hB hC hD;go_enter Tryz.func38,Tryz.ntmps38;go_upto_region 1 with fail
 rw[<-HW1.o];obtain⟨x0,x1,x2,x3,x4,x5⟩:=HXC.o _ HB.o;go_wp2_with fail;refine (KAll.o _ HB.o).mono ?_;rintro e w2 ⟨rfl,hb⟩;have HB1:=Hd (HB.o.trans (hb.mono HB.o.size));clear hb;clear x0 x1 x2 x3 x4 x5;obtain⟨x0,x1,x2,x3,x4,x5⟩:=HXC.o _ HB1.o;go_wp2_with fail;go_ret
 exact⟨by rw[hA.o];rfl,HBZ.o.trans (HB1.o.mono HBZ.o.size)⟩
theorem X2 (t:Z8) (n:Int) (ps:List Ty) (fs:Bv) (vs:Bw) (hp:∀p∈ps,Aj p) (hf:∀f∈fs,Aj f.2.2) (hv:∀v∈vs,∀b∈v.2,Aj b) (hF:fs.length=0) (hH:vs.length=0) (hC:ps.all Ai=true) (hG:ps.length=4) (hI:n≠0) (hE:n=1) (hB:Ca t=false):Aj (.mk 21 t n ps fs vs):=by
 refine Bc 21 t n ps fs vs hp hf hv fun K w A c A' c' A'' c'' w1 h=>?_;obtain⟨HXC,KAll,KPl,KNm,KOb,KBi,KOv,HREP,HCN,HBZ,HB,HS1,HX0,HW1,hlp,hlf,hlv⟩:=h;clear hp hf hv;have hA:Z9 (Ai (.mk 21 t n ps fs vs)=false):=Hd (by
  rw[Aw,show Ak 21=⟨true,true,false,false,4,4,true⟩ from rfl,hC];unfold Ar Bq;simp[hF,hH,hG,hE,hB])
 obtain⟨f1,f2,f3,f4⟩:=Gl (m:=fs.length) (n:=vs.length) (by omega) (by omega);rw[hC]at KAll;subst hE;rw[hB]at KNm;have p1:((ps.length:Int) == 4)=true:=beq_iff_eq.2 (by omega);have p2:(ps.length == 4)=true:=beq_iff_eq.2 (by omega);have p3:decide (ps.length=4)=true:=decide_eq_true (by omega);have p4:decide ((ps.length:Int)=4)=true:=decide_eq_true (by omega);clear hF hH hG hI hC hB;go_enter Tryz.func38,Tryz.ntmps38;go_upto_region 1 with fail
 rw[<-HW1.o];obtain⟨x0,x1,x2,x3,x4,x5⟩:=HXC.o _ HB.o;go_wp2_with fail;refine (KAll.o _ HB.o).mono ?_;rintro e w2 ⟨rfl,hb⟩;have HB1:=Hd (HB.o.trans (hb.mono HB.o.size));clear hb;clear x0 x1 x2 x3 x4 x5;obtain⟨x0,x1,x2,x3,x4,x5⟩:=HXC.o _ HB1.o;go_wp2_with fail;refine (KNm.o _).mono ?_;rintro e w3 ⟨rfl,hb⟩;have hD:=Hd (HB1.o.trans (hb.mono HB1.o.size));clear hb;clear x0 x1 x2 x3 x4 x5;obtain⟨x0,x1,x2,x3,x4,x5⟩:=HXC.o _ hD.o;go_wp2_with fail;go_ret
 exact⟨by rw[hA.o];rfl,HBZ.o.trans (hD.o.mono HBZ.o.size)⟩
theorem X3 (t:Z8) (n:Int) (ps:List Ty) (fs:Bv) (vs:Bw) (hp:∀p∈ps,Aj p) (hf:∀f∈fs,Aj f.2.2) (hv:∀v∈vs,∀b∈v.2,Aj b) (hF:fs.length=0) (hH:vs.length=0) (hC:ps.all Ai=true) (hG:ps.length=4) (hI:n≠0) (hE:n=1) (hB:Ca t=true):Aj (.mk 21 t n ps fs vs):=by
 refine Bc 21 t n ps fs vs hp hf hv fun K w A c A' c' A'' c'' w1 h=>?_;obtain⟨HXC,KAll,KPl,KNm,KOb,KBi,KOv,HREP,HCN,HBZ,HB,HS1,HX0,HW1,hlp,hlf,hlv⟩:=h;clear hp hf hv;have hA:Z9 (Ai (.mk 21 t n ps fs vs)=true):=Hd (by
  rw[Aw,show Ak 21=⟨true,true,false,false,4,4,true⟩ from rfl,hC];unfold Ar Bq;simp[hF,hH,hG,hE,hB])
 obtain⟨f1,f2,f3,f4⟩:=Gl (m:=fs.length) (n:=vs.length) (by omega) (by omega);rw[hC]at KAll;subst hE;rw[hB]at KNm;have p1:((ps.length:Int) == 4)=true:=beq_iff_eq.2 (by omega);have p2:(ps.length == 4)=true:=beq_iff_eq.2 (by omega);have p3:decide (ps.length=4)=true:=decide_eq_true (by omega);have p4:decide ((ps.length:Int)=4)=true:=decide_eq_true (by omega);clear hF hH hG hI hC hB;go_enter Tryz.func38,Tryz.ntmps38;go_upto_region 1 with fail
 rw[<-HW1.o];obtain⟨x0,x1,x2,x3,x4,x5⟩:=HXC.o _ HB.o;go_wp2_with fail;refine (KAll.o _ HB.o).mono ?_;rintro e w2 ⟨rfl,hb⟩;have HB1:=Hd (HB.o.trans (hb.mono HB.o.size));clear hb;clear x0 x1 x2 x3 x4 x5;obtain⟨x0,x1,x2,x3,x4,x5⟩:=HXC.o _ HB1.o;go_wp2_with fail;refine (KNm.o _).mono ?_;rintro e w3 ⟨rfl,hb⟩;have hD:=Hd (HB1.o.trans (hb.mono HB1.o.size));clear hb;clear x0 x1 x2 x3 x4 x5;obtain⟨x0,x1,x2,x3,x4,x5⟩:=HXC.o _ hD.o;go_wp2_with fail;go_ret
 exact⟨by rw[hA.o];rfl,HBZ.o.trans (hD.o.mono HBZ.o.size)⟩
theorem Jaw (t:Z8) (n:Int) (ps:List Ty) (fs:Bv) (vs:Bw) (hp:∀p∈ps,Aj p) (hf:∀f∈fs,Aj f.2.2) (hv:∀v∈vs,∀b∈v.2,Aj b) (hE:fs.length=0) (hF:vs.length=0) (hB:ps.all Ai=true) (a0:UInt8) (l0:List UInt8) (hC:t.toList=a0 :: l0):Aj (.mk 23 t n ps fs vs):=by
 refine Bc 23 t n ps fs vs hp hf hv fun K w A c A' c' A'' c'' w1 h=>?_;obtain⟨HXC,KAll,KPl,KNm,KOb,KBi,KOv,HREP,HCN,HBZ,HB,HS1,HX0,HW1,hlp,hlf,hlv⟩:=h;clear hp hf hv;have hA:Z9 (Ai (.mk 23 t n ps fs vs)=false):=Hd (by
  rw[Aw,show Ak 23=⟨false,false,false,false,2,-1,true⟩ from rfl,hB];unfold Ar Bq;simp[hE,hF,hC])
 obtain⟨f1,f2,f3,f4⟩:=Gl (m:=fs.length) (n:=vs.length) (by omega) (by omega);rw[hB]at KAll;have ep:(t.toList == [] && n == 0)=false:=by rw[hC];rfl
 rw[ep]at KPl;clear hE hF hB hC;go_enter Tryz.func38,Tryz.ntmps38;go_upto_region 1 with fail
 rw[<-HW1.o];obtain⟨x0,x1,x2,x3,x4,x5⟩:=HXC.o _ HB.o;go_wp2_with fail;refine (KAll.o _ HB.o).mono ?_;rintro e w2 ⟨rfl,hb⟩;have HB1:=Hd (HB.o.trans (hb.mono HB.o.size));clear hb;clear x0 x1 x2 x3 x4 x5;obtain⟨x0,x1,x2,x3,x4,x5⟩:=HXC.o _ HB1.o;go_wp2_with fail;refine (KPl.o _).mono ?_;rintro e w3 ⟨rfl,hb⟩;have hD:=Hd (HB1.o.trans (hb.mono HB1.o.size));clear hb;clear x0 x1 x2 x3 x4 x5;obtain⟨x0,x1,x2,x3,x4,x5⟩:=HXC.o _ hD.o;go_wp2_with fail;go_ret
 exact⟨by rw[hA.o];rfl,HBZ.o.trans (hD.o.mono HBZ.o.size)⟩
theorem Jau (t:Z8) (n:Int) (ps:List Ty) (fs:Bv) (vs:Bw) (hp:∀p∈ps,Aj p) (hf:∀f∈fs,Aj f.2.2) (hv:∀v∈vs,∀b∈v.2,Aj b) (hF:fs.length=0) (hG:vs.length=0) (hC:ps.all Ai=true) (hD:t.toList=[]) (hB:n≠0):Aj (.mk 23 t n ps fs vs):=by
 refine Bc 23 t n ps fs vs hp hf hv fun K w A c A' c' A'' c'' w1 h=>?_;obtain⟨HXC,KAll,KPl,KNm,KOb,KBi,KOv,HREP,HCN,HBZ,HB,HS1,HX0,HW1,hlp,hlf,hlv⟩:=h;clear hp hf hv;have hA:Z9 (Ai (.mk 23 t n ps fs vs)=false):=Hd (by
  rw[Aw,show Ak 23=⟨false,false,false,false,2,-1,true⟩ from rfl,hC];unfold Ar Bq;simp[hF,hG,hD,hB])
 obtain⟨f1,f2,f3,f4⟩:=Gl (m:=fs.length) (n:=vs.length) (by omega) (by omega);rw[hC]at KAll;have ep:(t.toList == [] && n == 0)=false:=by rw[hD];simpa using hB
 rw[ep]at KPl;clear hF hG hB hC hD;go_enter Tryz.func38,Tryz.ntmps38;go_upto_region 1 with fail
 rw[<-HW1.o];obtain⟨x0,x1,x2,x3,x4,x5⟩:=HXC.o _ HB.o;go_wp2_with fail;refine (KAll.o _ HB.o).mono ?_;rintro e w2 ⟨rfl,hb⟩;have HB1:=Hd (HB.o.trans (hb.mono HB.o.size));clear hb;clear x0 x1 x2 x3 x4 x5;obtain⟨x0,x1,x2,x3,x4,x5⟩:=HXC.o _ HB1.o;go_wp2_with fail;refine (KPl.o _).mono ?_;rintro e w3 ⟨rfl,hb⟩;have hE:=Hd (HB1.o.trans (hb.mono HB1.o.size));clear hb;clear x0 x1 x2 x3 x4 x5;obtain⟨x0,x1,x2,x3,x4,x5⟩:=HXC.o _ hE.o;go_wp2_with fail;go_ret
 exact⟨by rw[hA.o];rfl,HBZ.o.trans (hE.o.mono HBZ.o.size)⟩
theorem Jav (t:Z8) (n:Int) (ps:List Ty) (fs:Bv) (vs:Bw) (hp:∀p∈ps,Aj p) (hf:∀f∈fs,Aj f.2.2) (hv:∀v∈vs,∀b∈v.2,Aj b) (hF:fs.length=0) (hG:vs.length=0) (hC:ps.all Ai=true) (hD:t.toList=[]) (hB:n=0) (hH:¬ 2<=ps.length):Aj (.mk 23 t n ps fs vs):=by
 refine Bc 23 t n ps fs vs hp hf hv fun K w A c A' c' A'' c'' w1 h=>?_;obtain⟨HXC,KAll,KPl,KNm,KOb,KBi,KOv,HREP,HCN,HBZ,HB,HS1,HX0,HW1,hlp,hlf,hlv⟩:=h;clear hp hf hv;have hA:Z9 (Ai (.mk 23 t n ps fs vs)=false):=Hd (by
  rw[Aw,show Ak 23=⟨false,false,false,false,2,-1,true⟩ from rfl,hC];unfold Ar Bq;simp[hF,hG,hD,hB];omega)
 obtain⟨f1,f2,f3,f4⟩:=Gl (m:=fs.length) (n:=vs.length) (by omega) (by omega);rw[hC]at KAll;have ep:(t.toList == [] && n == 0)=true:=by rw[hD,hB];rfl
 rw[ep]at KPl;have p1:decide ((2:Int)<=(ps.length:Int))=false:=decide_eq_false (by omega);have p2:decide (2<=ps.length)=false:=decide_eq_false (by omega);clear hF hG hH hB hC hD;go_enter Tryz.func38,Tryz.ntmps38;go_upto_region 1 with fail
 rw[<-HW1.o];obtain⟨x0,x1,x2,x3,x4,x5⟩:=HXC.o _ HB.o;go_wp2_with fail;refine (KAll.o _ HB.o).mono ?_;rintro e w2 ⟨rfl,hb⟩;have HB1:=Hd (HB.o.trans (hb.mono HB.o.size));clear hb;clear x0 x1 x2 x3 x4 x5;obtain⟨x0,x1,x2,x3,x4,x5⟩:=HXC.o _ HB1.o;go_wp2_with fail;refine (KPl.o _).mono ?_;rintro e w3 ⟨rfl,hb⟩;have hE:=Hd (HB1.o.trans (hb.mono HB1.o.size));clear hb;clear x0 x1 x2 x3 x4 x5;obtain⟨x0,x1,x2,x3,x4,x5⟩:=HXC.o _ hE.o;go_wp2_with fail;go_ret
 exact⟨by rw[hA.o];rfl,HBZ.o.trans (hE.o.mono HBZ.o.size)⟩
theorem X4 (t:Z8) (n:Int) (ps:List Ty) (fs:Bv) (vs:Bw) (hp:∀p∈ps,Aj p) (hf:∀f∈fs,Aj f.2.2) (hv:∀v∈vs,∀b∈v.2,Aj b) (hH:fs.length=0) (hI:vs.length=0) (hE:ps.all Ai=true) (hF:t.toList=[]) (hC:n=0) (hJ:2<=ps.length) (hD:Ju ps=false):Aj (.mk 23 t n ps fs vs):=by
 refine Bc 23 t n ps fs vs hp hf hv fun K w A c A' c' A'' c'' w1 h=>?_;obtain⟨HXC,KAll,KPl,KNm,KOb,KBi,KOv,HREP,HCN,HBZ,HB,HS1,HX0,HW1,hlp,hlf,hlv⟩:=h;clear hp hf hv;have hB:Z9 (Ai (.mk 23 t n ps fs vs)=false):=Hd (by
  rw[Aw,show Ak 23=⟨false,false,false,false,2,-1,true⟩ from rfl,hE];unfold Ar Bq;have ho:(ps.all fun p=>p.k == 13)=false:=hD;simp[hH,hI,hF,hC,ho])
 obtain⟨f1,f2,f3,f4⟩:=Gl (m:=fs.length) (n:=vs.length) (by omega) (by omega);rw[hE]at KAll;have ep:(t.toList == [] && n == 0)=true:=by rw[hF,hC];rfl
 rw[ep]at KPl;have p1:decide ((2:Int)<=(ps.length:Int))=true:=decide_eq_true (by omega);have p2:decide (2<=ps.length)=true:=decide_eq_true (by omega);rw[hD]at KOv;clear hH hI hJ hC hE hD hF;go_enter Tryz.func38,Tryz.ntmps38;go_upto_region 1 with fail
 rw[<-HW1.o];obtain⟨x0,x1,x2,x3,x4,x5⟩:=HXC.o _ HB.o;go_wp2_with fail;refine (KAll.o _ HB.o).mono ?_;rintro e w2 ⟨rfl,hb⟩;have HB1:=Hd (HB.o.trans (hb.mono HB.o.size));clear hb;clear x0 x1 x2 x3 x4 x5;obtain⟨x0,x1,x2,x3,x4,x5⟩:=HXC.o _ HB1.o;go_wp2_with fail;refine (KPl.o _).mono ?_;rintro e w3 ⟨rfl,hb⟩;have hA:=Hd (HB1.o.trans (hb.mono HB1.o.size));clear hb;clear x0 x1 x2 x3 x4 x5;obtain⟨x0,x1,x2,x3,x4,x5⟩:=HXC.o _ hA.o;go_wp2_with fail;refine (KOv.o _ hA.o).mono ?_;rintro e w4 ⟨rfl,rfl⟩;have hG:=Hd hA.o;clear x0 x1 x2 x3 x4 x5;obtain⟨x0,x1,x2,x3,x4,x5⟩:=HXC.o _ hG.o;go_wp2_with fail;go_ret
 exact⟨by rw[hB.o];rfl,HBZ.o.trans (hG.o.mono HBZ.o.size)⟩
theorem X5 (t:Z8) (n:Int) (ps:List Ty) (fs:Bv) (vs:Bw) (hp:∀p∈ps,Aj p) (hf:∀f∈fs,Aj f.2.2) (hv:∀v∈vs,∀b∈v.2,Aj b) (hH:fs.length=0) (hI:vs.length=0) (hE:ps.all Ai=true) (hF:t.toList=[]) (hC:n=0) (hJ:2<=ps.length) (hD:Ju ps=true):Aj (.mk 23 t n ps fs vs):=by
 refine Bc 23 t n ps fs vs hp hf hv fun K w A c A' c' A'' c'' w1 h=>?_;obtain⟨HXC,KAll,KPl,KNm,KOb,KBi,KOv,HREP,HCN,HBZ,HB,HS1,HX0,HW1,hlp,hlf,hlv⟩:=h;clear hp hf hv;have hB:Z9 (Ai (.mk 23 t n ps fs vs)=true):=Hd (by
  rw[Aw,show Ak 23=⟨false,false,false,false,2,-1,true⟩ from rfl,hE];unfold Ar Bq;have ho:(ps.all fun p=>p.k == 13)=true:=hD;simp[hH,hI,hF,hC,ho];omega)
 obtain⟨f1,f2,f3,f4⟩:=Gl (m:=fs.length) (n:=vs.length) (by omega) (by omega);rw[hE]at KAll;have ep:(t.toList == [] && n == 0)=true:=by rw[hF,hC];rfl
 rw[ep]at KPl;have p1:decide ((2:Int)<=(ps.length:Int))=true:=decide_eq_true (by omega);have p2:decide (2<=ps.length)=true:=decide_eq_true (by omega);rw[hD]at KOv;clear hH hI hJ hC hE hD hF;go_enter Tryz.func38,Tryz.ntmps38;go_upto_region 1 with fail
 rw[<-HW1.o];obtain⟨x0,x1,x2,x3,x4,x5⟩:=HXC.o _ HB.o;go_wp2_with fail;refine (KAll.o _ HB.o).mono ?_;rintro e w2 ⟨rfl,hb⟩;have HB1:=Hd (HB.o.trans (hb.mono HB.o.size));clear hb;clear x0 x1 x2 x3 x4 x5;obtain⟨x0,x1,x2,x3,x4,x5⟩:=HXC.o _ HB1.o;go_wp2_with fail;refine (KPl.o _).mono ?_;rintro e w3 ⟨rfl,hb⟩;have hA:=Hd (HB1.o.trans (hb.mono HB1.o.size));clear hb;clear x0 x1 x2 x3 x4 x5;obtain⟨x0,x1,x2,x3,x4,x5⟩:=HXC.o _ hA.o;go_wp2_with fail;refine (KOv.o _ hA.o).mono ?_;rintro e w4 ⟨rfl,rfl⟩;have hG:=Hd hA.o;clear x0 x1 x2 x3 x4 x5;obtain⟨x0,x1,x2,x3,x4,x5⟩:=HXC.o _ hG.o;go_wp2_with fail;go_ret
 exact⟨by rw[hB.o];rfl,HBZ.o.trans (hG.o.mono HBZ.o.size)⟩
theorem Jac (t:Z8) (n:Int) (ps:List Ty) (fs:Bv) (vs:Bw) (hp:∀p∈ps,Aj p) (hf:∀f∈fs,Aj f.2.2) (hv:∀v∈vs,∀b∈v.2,Aj b) (hF:fs.length=0) (hG:vs.length=0) (hC:ps.all Ai=true) (a0:UInt8) (l0:List UInt8) (hD:t.toList=a0 :: l0):Aj (.mk 15 t n ps fs vs):=by
 refine Bc 15 t n ps fs vs hp hf hv fun K w A c A' c' A'' c'' w1 h=>?_;obtain⟨HXC,KAll,KPl,KNm,KOb,KBi,KOv,HREP,HCN,HBZ,HB,HS1,HX0,HW1,hlp,hlf,hlv⟩:=h;clear hp hf hv;have hB:Z9 (Ai (.mk 15 t n ps fs vs)=false):=Hd (by
  rw[Aw,show Ak 15=⟨false,false,false,false,2,-1,true⟩ from rfl,hC];unfold Ar Bq;simp[hF,hG,hD])
 obtain⟨f1,f2,f3,f4⟩:=Gl (m:=fs.length) (n:=vs.length) (by omega) (by omega);rw[hC]at KAll;have ep:(t.toList == [] && n == 0)=false:=by rw[hD];rfl
 rw[ep]at KPl;try clear hF
 try clear hG
 try clear hnp
 try clear hn0
 try clear hC
 try clear hD
 go_enter Tryz.func38,Tryz.ntmps38;go_upto_region 1 with fail
 rw[<-HW1.o];obtain⟨x0,x1,x2,x3,x4,x5⟩:=HXC.o _ HB.o;go_wp2_with fail;refine (KAll.o _ HB.o).mono ?_;rintro e w2 ⟨rfl,hb⟩;have HB1:=Hd (HB.o.trans (hb.mono HB.o.size));clear hb;clear x0 x1 x2 x3 x4 x5;obtain⟨x0,x1,x2,x3,x4,x5⟩:=HXC.o _ HB1.o;go_wp2_with fail;clear x0 x1 x2 x3 x4 x5;refine wp_region_held_drew (S:=(fun w'=>w'.cell? ⟨w.heap.size,0,none⟩=some (.int .i64 15)/\w'.cell? ⟨w.heap.size,1,none⟩=some (.string t)/\w'.cell? ⟨w.heap.size,2,none⟩=some (.int .i64 n)/\w'.cell? ⟨w.heap.size,3,none⟩=some (.slice A ps.length c)/\w'.cell? ⟨w.heap.size,4,none⟩=some (.slice A' fs.length c')/\w'.cell? ⟨w.heap.size,5,none⟩=some (.slice A'' vs.length c''))) (by kernel_rfl) (HXC.o _ HB1.o.drew) (fun hA=>?_);refine Ab.s [0] ?_;refine Ab.k (so rfl) hA ?_;try simp only[Act.put,Az,Ba,Bb]
 refine Ab.d ?_;refine wpAnyH_ready (rs:=[1]) (by kernel_rfl) (by simp) ?_;refine AllReadyH.cons (sd (some 115) rfl) (fun K hK=>?_) AllReadyH.nil;go_simp;refine (KPl.o _).mono ?_;rintro e w4 ⟨rfl,hb⟩;have hE:=Hd (HB1.o.drew.trans (hb.mono HB1.o.drew.size));clear hb;go_wp2_with fail;refine hK.out _ _ (HXC.o _ hE.o) (fun hA=>?_);clear hK K;try simp only[Act.put,Az,Ba,Bb]
 refine Ab.s [2] ?_;refine Ab.k (so rfl) hA ?_;try simp only[Act.put,Az,Ba,Bb]
 refine Ab.d ?_;refine Ab.s [3,4] ?_
 iterate 2 (refine Ab.t (v:=undef) (so rfl) (by kernel_rfl) (by kernel_rfl) (by kernel_rfl) (fun _ _ _ h=>h) (Or.inr ⟨by rfl,rfl⟩) hA ?_;try simp only[Act.put,Az,Ba,Bb])
 refine Ab.d ?_;refine Ab.s [5,6] ?_
 iterate 2 (refine Ab.k (so rfl) hA ?_;try simp only[Act.put,Az,Ba,Bb])
 refine Ab.d ?_;refine Ab.s [7,8,9,10,11,12] ?_
 iterate 6 (refine Ab.t (v:=undef) (so rfl) (by kernel_rfl) (by kernel_rfl) (by kernel_rfl) (fun _ _ _ h=>h) (Or.inr ⟨by rfl,rfl⟩) hA ?_;try simp only[Act.put,Az,Ba,Bb])
 refine Ab.d ?_;refine Ab.s [13,14] ?_
 iterate 2 (refine Ab.k (so rfl) hA ?_;try simp only[Act.put,Az,Ba,Bb])
 refine Ab.d ?_;refine wpAnyH_done (by kernel_rfl) ?_ _;clear hA;go_wp2_with fail;go_ret
 exact⟨by rw[hB.o];rfl,HBZ.o.trans (hE.o.mono HBZ.o.size)⟩
theorem Jaa (t:Z8) (n:Int) (ps:List Ty) (fs:Bv) (vs:Bw) (hp:∀p∈ps,Aj p) (hf:∀f∈fs,Aj f.2.2) (hv:∀v∈vs,∀b∈v.2,Aj b) (hG:fs.length=0) (hH:vs.length=0) (hD:ps.all Ai=true) (hE:t.toList=[]) (hC:n≠0):Aj (.mk 15 t n ps fs vs):=by
 refine Bc 15 t n ps fs vs hp hf hv fun K w A c A' c' A'' c'' w1 h=>?_;obtain⟨HXC,KAll,KPl,KNm,KOb,KBi,KOv,HREP,HCN,HBZ,HB,HS1,HX0,HW1,hlp,hlf,hlv⟩:=h;clear hp hf hv;have hB:Z9 (Ai (.mk 15 t n ps fs vs)=false):=Hd (by
  rw[Aw,show Ak 15=⟨false,false,false,false,2,-1,true⟩ from rfl,hD];unfold Ar Bq;simp[hG,hH,hE,hC])
 obtain⟨f1,f2,f3,f4⟩:=Gl (m:=fs.length) (n:=vs.length) (by omega) (by omega);rw[hD]at KAll;have ep:(t.toList == [] && n == 0)=false:=by rw[hE];simpa using hC
 rw[ep]at KPl;try clear hG
 try clear hH
 try clear hnp
 try clear hC
 try clear hD
 try clear hE
 go_enter Tryz.func38,Tryz.ntmps38;go_upto_region 1 with fail
 rw[<-HW1.o];obtain⟨x0,x1,x2,x3,x4,x5⟩:=HXC.o _ HB.o;go_wp2_with fail;refine (KAll.o _ HB.o).mono ?_;rintro e w2 ⟨rfl,hb⟩;have HB1:=Hd (HB.o.trans (hb.mono HB.o.size));clear hb;clear x0 x1 x2 x3 x4 x5;obtain⟨x0,x1,x2,x3,x4,x5⟩:=HXC.o _ HB1.o;go_wp2_with fail;clear x0 x1 x2 x3 x4 x5;refine wp_region_held_drew (S:=(fun w'=>w'.cell? ⟨w.heap.size,0,none⟩=some (.int .i64 15)/\w'.cell? ⟨w.heap.size,1,none⟩=some (.string t)/\w'.cell? ⟨w.heap.size,2,none⟩=some (.int .i64 n)/\w'.cell? ⟨w.heap.size,3,none⟩=some (.slice A ps.length c)/\w'.cell? ⟨w.heap.size,4,none⟩=some (.slice A' fs.length c')/\w'.cell? ⟨w.heap.size,5,none⟩=some (.slice A'' vs.length c''))) (by kernel_rfl) (HXC.o _ HB1.o.drew) (fun hA=>?_);refine Ab.s [0] ?_;refine Ab.k (so rfl) hA ?_;try simp only[Act.put,Az,Ba,Bb]
 refine Ab.d ?_;refine wpAnyH_ready (rs:=[1]) (by kernel_rfl) (by simp) ?_;refine AllReadyH.cons (sd (some 115) rfl) (fun K hK=>?_) AllReadyH.nil;go_simp;refine (KPl.o _).mono ?_;rintro e w4 ⟨rfl,hb⟩;have hF:=Hd (HB1.o.drew.trans (hb.mono HB1.o.drew.size));clear hb;go_wp2_with fail;refine hK.out _ _ (HXC.o _ hF.o) (fun hA=>?_);clear hK K;try simp only[Act.put,Az,Ba,Bb]
 refine Ab.s [2] ?_;refine Ab.k (so rfl) hA ?_;try simp only[Act.put,Az,Ba,Bb]
 refine Ab.d ?_;refine Ab.s [3,4] ?_
 iterate 2 (refine Ab.t (v:=undef) (so rfl) (by kernel_rfl) (by kernel_rfl) (by kernel_rfl) (fun _ _ _ h=>h) (Or.inr ⟨by rfl,rfl⟩) hA ?_;try simp only[Act.put,Az,Ba,Bb])
 refine Ab.d ?_;refine Ab.s [5,6] ?_
 iterate 2 (refine Ab.k (so rfl) hA ?_;try simp only[Act.put,Az,Ba,Bb])
 refine Ab.d ?_;refine Ab.s [7,8,9,10,11,12] ?_
 iterate 6 (refine Ab.t (v:=undef) (so rfl) (by kernel_rfl) (by kernel_rfl) (by kernel_rfl) (fun _ _ _ h=>h) (Or.inr ⟨by rfl,rfl⟩) hA ?_;try simp only[Act.put,Az,Ba,Bb])
 refine Ab.d ?_;refine Ab.s [13,14] ?_
 iterate 2 (refine Ab.k (so rfl) hA ?_;try simp only[Act.put,Az,Ba,Bb])
 refine Ab.d ?_;refine wpAnyH_done (by kernel_rfl) ?_ _;clear hA;go_wp2_with fail;go_ret
 exact⟨by rw[hB.o];rfl,HBZ.o.trans (hF.o.mono HBZ.o.size)⟩
theorem Jab (t:Z8) (n:Int) (ps:List Ty) (fs:Bv) (vs:Bw) (hp:∀p∈ps,Aj p) (hf:∀f∈fs,Aj f.2.2) (hv:∀v∈vs,∀b∈v.2,Aj b) (hG:fs.length=0) (hH:vs.length=0) (hD:ps.all Ai=true) (hE:t.toList=[]) (hC:n=0) (hI:¬ 2<=ps.length):Aj (.mk 15 t n ps fs vs):=by
 refine Bc 15 t n ps fs vs hp hf hv fun K w A c A' c' A'' c'' w1 h=>?_;obtain⟨HXC,KAll,KPl,KNm,KOb,KBi,KOv,HREP,HCN,HBZ,HB,HS1,HX0,HW1,hlp,hlf,hlv⟩:=h;clear hp hf hv;have hB:Z9 (Ai (.mk 15 t n ps fs vs)=false):=Hd (by
  rw[Aw,show Ak 15=⟨false,false,false,false,2,-1,true⟩ from rfl,hD];unfold Ar Bq;simp[hG,hH,hE,hC];omega)
 obtain⟨f1,f2,f3,f4⟩:=Gl (m:=fs.length) (n:=vs.length) (by omega) (by omega);rw[hD]at KAll;have ep:(t.toList == [] && n == 0)=true:=by rw[hE,hC];rfl
 rw[ep]at KPl;have p1:decide ((2:Int)<=(ps.length:Int))=false:=decide_eq_false (by omega);have p2:decide (2<=ps.length)=false:=decide_eq_false (by omega);try clear hG
 try clear hH
 try clear hI
 try clear hC
 try clear hD
 try clear hE
 go_enter Tryz.func38,Tryz.ntmps38;go_upto_region 1 with fail
 rw[<-HW1.o];obtain⟨x0,x1,x2,x3,x4,x5⟩:=HXC.o _ HB.o;go_wp2_with fail;refine (KAll.o _ HB.o).mono ?_;rintro e w2 ⟨rfl,hb⟩;have HB1:=Hd (HB.o.trans (hb.mono HB.o.size));clear hb;clear x0 x1 x2 x3 x4 x5;obtain⟨x0,x1,x2,x3,x4,x5⟩:=HXC.o _ HB1.o;go_wp2_with fail;clear x0 x1 x2 x3 x4 x5;refine wp_region_held_drew (S:=(fun w'=>w'.cell? ⟨w.heap.size,0,none⟩=some (.int .i64 15)/\w'.cell? ⟨w.heap.size,1,none⟩=some (.string t)/\w'.cell? ⟨w.heap.size,2,none⟩=some (.int .i64 n)/\w'.cell? ⟨w.heap.size,3,none⟩=some (.slice A ps.length c)/\w'.cell? ⟨w.heap.size,4,none⟩=some (.slice A' fs.length c')/\w'.cell? ⟨w.heap.size,5,none⟩=some (.slice A'' vs.length c''))) (by kernel_rfl) (HXC.o _ HB1.o.drew) (fun hA=>?_);refine Ab.s [0] ?_;refine Ab.k (so rfl) hA ?_;try simp only[Act.put,Az,Ba,Bb]
 refine Ab.d ?_;refine wpAnyH_ready (rs:=[1]) (by kernel_rfl) (by simp) ?_;refine AllReadyH.cons (sd (some 115) rfl) (fun K hK=>?_) AllReadyH.nil;go_simp;refine (KPl.o _).mono ?_;rintro e w4 ⟨rfl,hb⟩;have hF:=Hd (HB1.o.drew.trans (hb.mono HB1.o.drew.size));clear hb;go_wp2_with fail;refine hK.out _ _ (HXC.o _ hF.o) (fun hA=>?_);clear hK K;try simp only[Act.put,Az,Ba,Bb]
 refine Ab.s [2,3,4,5,6] ?_
 iterate 5 (refine Ab.k (so rfl) hA ?_;try simp only[Act.put,Az,Ba,Bb])
 refine Ab.d ?_;refine Ab.s [7,8,9,10,11,12] ?_
 iterate 6 (refine Ab.t (v:=undef) (so rfl) (by kernel_rfl) (by kernel_rfl) (by kernel_rfl) (fun _ _ _ h=>h) (Or.inr ⟨by rfl,rfl⟩) hA ?_;try simp only[Act.put,Az,Ba,Bb])
 refine Ab.d ?_;refine Ab.s [13,14] ?_
 iterate 2 (refine Ab.k (so rfl) hA ?_;try simp only[Act.put,Az,Ba,Bb])
 refine Ab.d ?_;refine wpAnyH_done (by kernel_rfl) ?_ _;clear hA;go_wp2_with fail;go_ret
 exact⟨by rw[hB.o];rfl,HBZ.o.trans (hF.o.mono HBZ.o.size)⟩
theorem Jad (t:Z8) (n:Int) (ps:List Ty) (fs:Bv) (vs:Bw) (hp:∀p∈ps,Aj p) (hf:∀f∈fs,Aj f.2.2) (hv:∀v∈vs,∀b∈v.2,Aj b) (hV:fs.length=0) (hX:vs.length=0) (hD:ps.all Ai=true) (hH:t.toList=[]) (hO:n=0) (hW:2<=ps.length):Aj (.mk 15 t n ps fs vs):=by
 refine Bc 15 t n ps fs vs hp hf hv fun K w A c A' c' A'' c'' w1 h=>?_;obtain⟨HXC,KAll,KPl,KNm,KOb,KBi,KOv,HREP,HCN,HBZ,HB,HS1,HX0,HW1,hlp,hlf,hlv⟩:=h;clear hp hf hv;have hF:∀x∈ps,Ai x=true:=List.all_eq_true.1 hD;have hB:=Jb ps;have hN:Au ps<=1000000:=by have:=HCN.o;omega
 have hZ:=An.low _ _ HREP.o;obtain⟨B,d,B',d',B'',d'',he,-,hT,-,-⟩:=hZ.inv;have kA:A=B/\c=d:=by simp only[Ao,List.cons.injEq,Value.slice.injEq]at he;exact⟨he.2.2.2.1.1,he.2.2.2.1.2.2⟩
 obtain⟨rfl,rfl⟩:=kA;have hL:=Hd fun wx (hx:Below w1.heap.size w1 wx)=>Qb (hT.later (HBZ.o.trans (hx.mono HBZ.o.size))) (fun b hb=>by have:=HBZ.o.size;have:=hx.size;omega) (fun x kD=>by have h1:=Ey x;have h2:=hB.2 x kD;omega) (by have:=hB.1;omega);rw[Vc (J7 hD)]at hL;generalize hP:Bl ps=u at hL;obtain⟨k2,s2,n2,hQ,hM,hR⟩:=u;have kE:Z9 (Hv (Dg (Hb ps))=.mk k2 s2 n2 hQ hM hR):=Hd (by rw[Vc (J7 hD),hP]);obtain⟨z,hz⟩:∃z,B6 (.mk k2 s2 n2 hQ hM hR) (.mk 15 t n ps fs vs)=z:=⟨_,rfl⟩;have HZ:=Hd hz;have hJ:Z9 (Ai (.mk 15 t n ps fs vs)=(z == 0)):=Hd (by
  have ht:t=Bp:=Ev (by rw[ByteArray.toList_eq]at hH;rw[hH];rfl);have kB:fs=[]:=List.eq_nil_of_length_eq_zero hV;have kC:vs=[]:=List.eq_nil_of_length_eq_zero hX;subst ht hO kB kC;have h1:Ai (.mk 15 Bp 0 ps [] [])=Ih ps:=by
   rw[Aw,show Ak 15=⟨false,false,false,false,2,-1,true⟩ from rfl,hD];unfold Ar Bq;simp[J1];omega
  rw[h1,Bool.eq_iff_iff,Lj hW,hP,<-hz,beq_iff_eq];exact Dl.symm)
 obtain⟨f1,f2,f3,f4⟩:=Gl (m:=fs.length) (n:=vs.length) (by omega) (by omega);rw[hD]at KAll;have ep:(t.toList == [] && n == 0)=true:=by rw[hH,hO];rfl
 rw[ep]at KPl;have p1:decide ((2:Int)<=(ps.length:Int))=true:=decide_eq_true (by omega);have p2:decide (2<=ps.length)=true:=decide_eq_true (by omega);clear hF hB hN hZ hT he hP hz;try clear hV
 try clear hX
 try clear hW
 try clear hO
 try clear hD
 try clear hH
 go_enter Tryz.func38,Tryz.ntmps38;go_upto_region 1 with fail
 rw[<-HW1.o];obtain⟨x0,x1,x2,x3,x4,x5⟩:=HXC.o _ HB.o;go_wp2_with fail;refine (KAll.o _ HB.o).mono ?_;rintro e w2 ⟨rfl,hb⟩;have HB1:=Hd (HB.o.trans (hb.mono HB.o.size));clear hb;clear x0 x1 x2 x3 x4 x5;obtain⟨x0,x1,x2,x3,x4,x5⟩:=HXC.o _ HB1.o;go_wp2_with fail;clear x0 x1 x2 x3 x4 x5;refine wp_region_held_drew (S:=(fun w'=>w'.cell? ⟨w.heap.size,0,none⟩=some (.int .i64 15)/\w'.cell? ⟨w.heap.size,1,none⟩=some (.string t)/\w'.cell? ⟨w.heap.size,2,none⟩=some (.int .i64 n)/\w'.cell? ⟨w.heap.size,3,none⟩=some (.slice A ps.length c)/\w'.cell? ⟨w.heap.size,4,none⟩=some (.slice A' fs.length c')/\w'.cell? ⟨w.heap.size,5,none⟩=some (.slice A'' vs.length c''))) (by kernel_rfl) (HXC.o _ HB1.o.drew) (fun hA=>?_);refine Ab.s [0] ?_;refine Ab.k (so rfl) hA ?_;try simp only[Act.put,Az,Ba,Bb]
 refine Ab.d ?_;refine wpAnyH_ready (rs:=[1]) (by kernel_rfl) (by simp) ?_;refine AllReadyH.cons (sd (some 115) rfl) (fun K hK=>?_) AllReadyH.nil;go_simp;refine (KPl.o _).mono ?_;rintro e w4 ⟨rfl,hb⟩;have hG:=Hd (HB1.o.drew.trans (hb.mono HB1.o.drew.size));clear hb;go_wp2_with fail;refine hK.out _ _ (HXC.o _ hG.o) (fun hA=>?_);clear hK K;try simp only[Act.put,Az,Ba,Bb]
 refine Ab.s [2,3,4,5,6,7,8,10] ?_
 iterate 8 (refine Ab.k (so rfl) hA ?_;try simp only[Act.put,Az,Ba,Bb])
 refine Ab.d ?_;refine wpAnyH_ready (rs:=[9]) (by kernel_rfl) (by simp) ?_;refine AllReadyH.cons (sd (some 123) rfl) (fun K hK=>?_) AllReadyH.nil;go_simp;refine (hL.o _ hG.o).mono ?_;rintro e w5 ⟨rs,rfl,hY,hb⟩;have hE:=Hd (hG.o.trans (hb.mono hG.o.size));have hI:=Hd hY;clear hb hY;obtain⟨Aq,cq,Ag,cg,Ah,ch,rfl,-⟩:=hI.o.inv;simp only[Ao]at hI ⊢;have hC:=Hd fun wx (hx:Below w5.heap.size w5 wx)=>Lp (.mk k2 s2 n2 hQ hM hR) _ _ (.mk 15 t n ps fs vs) wx _ _ (hI.o.later hx) (HREP.o.later (HBZ.o.trans ((hE.o.trans (hx.mono hE.o.size)).mono HBZ.o.size)));try simp only[Ao]at hC
 rw[HZ.o]at hC;go_wp2_with fail;refine hK.out _ _ (HXC.o _ hE.o) (fun hA=>?_);clear hK K;try simp only[Act.put,Az,Ba,Bb]
 refine wpAnyH_ready (rs:=[11]) (by kernel_rfl) (by simp) ?_;refine AllReadyH.cons (sd (some 125) rfl) (fun K hK=>?_) AllReadyH.nil;go_simp;refine (hC.o _ (Below.refl _ _)).mono ?_;rintro e w6 ⟨rfl,hU⟩;have hS:=Hd (hE.o.trans (hU.below.mono hE.o.size));clear hU;go_wp2_with fail;refine hK.out _ _ (HXC.o _ hS.o) (fun hA=>?_);clear hK K;try simp only[Act.put,Az,Ba,Bb]
 refine Ab.s [12,13,14] ?_
 iterate 3 (refine Ab.k (so rfl) hA ?_;try simp only[Act.put,Az,Ba,Bb])
 refine Ab.d ?_;refine wpAnyH_done (by kernel_rfl) ?_ _;clear hA;go_wp2_with fail;go_ret
 exact⟨by rw[hJ.o];rfl,HBZ.o.trans (hS.o.mono HBZ.o.size)⟩
