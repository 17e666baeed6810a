import Derived.Test.YtlpfpehegddcfaaGreatDoorMx22
namespace Go.Proofs.YtlpfpehegddcfaaGreatDoor
set_option maxRecDepth 100000
set_option maxHeartbeats 64000000
open Go.RowKit
theorem Yy (t:Z8) (n:Int) (ps:List Ty) (fs:Bx) (vs:Bt) (hp:∀p∈ps,Ae p) (hf:∀f∈fs,Ae f.2.2) (hv:∀v∈vs,∀b∈v.2,Ae b) (hF:vs.length=0) (hC:ps.all Aj=true) (a0:UInt8) (l0:List UInt8) (hD:t.toList=a0 :: l0):Ae (.mk 14 t n ps fs vs):=by
 refine Bb 14 t n ps fs vs hp hf hv fun K w A c A' c' A'' c'' w1 h=>?_;obtain⟨HXC,KAll,KPl,KNm,KOb,KBi,KOv,HREP,HCN,HBZ,HB,HS1,HX0,HW1,hlp,hlf,hlv⟩:=h;clear hp hf hv;have hB:Z9 (Aj (.mk 14 t n ps fs vs)=false):=Hd (by
  rw[Ay,show Ak 14=⟨false,false,true,false,0,0,true⟩ from rfl,hC];unfold Ao Bs;simp[hF,hD])
 have f3:decide ((0:Int)<(vs.length:Int))=false:=decide_eq_false (by omega);have f4:decide (0<vs.length)=false:=decide_eq_false (by omega);rw[hC]at KAll;have ep:(t.toList == [] && n == 0)=false:=by rw[hD];rfl
 rw[ep]at KPl;clear hF hC hD;go_enter Tryz.func38,Tryz.ntmps38;go_upto_region 1 with fail
 rw[<-HW1.o];obtain⟨x0,x1,x2,x3,x4,x5⟩:=HXC.o _ HB.o;go_wp2_with fail;refine (KAll.o _ HB.o).mono ?_;rintro e w2 ⟨rfl,hb⟩;have hA:=Hd (HB.o.trans (hb.mono HB.o.size));clear hb;clear x0 x1 x2 x3 x4 x5;obtain⟨x0,x1,x2,x3,x4,x5⟩:=HXC.o _ hA.o;go_wp2_with fail;refine (KPl.o _).mono ?_;rintro e w3 ⟨rfl,hb⟩;have hE:=Hd (hA.o.trans (hb.mono hA.o.size));clear hb;clear x0 x1 x2 x3 x4 x5;obtain⟨x0,x1,x2,x3,x4,x5⟩:=HXC.o _ hE.o;go_wp2_with fail;go_ret
 exact⟨by rw[hB.o];rfl,HBZ.o.trans (hE.o.mono HBZ.o.size)⟩
theorem Yw (t:Z8) (n:Int) (ps:List Ty) (fs:Bx) (vs:Bt) (hp:∀p∈ps,Ae p) (hf:∀f∈fs,Ae f.2.2) (hv:∀v∈vs,∀b∈v.2,Ae b) (hG:vs.length=0) (hD:ps.all Aj=true) (hE:t.toList=[]) (hC:n≠0):Ae (.mk 14 t n ps fs vs):=by
 refine Bb 14 t n ps fs vs hp hf hv fun K w A c A' c' A'' c'' w1 h=>?_;obtain⟨HXC,KAll,KPl,KNm,KOb,KBi,KOv,HREP,HCN,HBZ,HB,HS1,HX0,HW1,hlp,hlf,hlv⟩:=h;clear hp hf hv;have hB:Z9 (Aj (.mk 14 t n ps fs vs)=false):=Hd (by
  rw[Ay,show Ak 14=⟨false,false,true,false,0,0,true⟩ from rfl,hD];unfold Ao Bs;simp[hG,hE,hC])
 have f3:decide ((0:Int)<(vs.length:Int))=false:=decide_eq_false (by omega);have f4:decide (0<vs.length)=false:=decide_eq_false (by omega);rw[hD]at KAll;have ep:(t.toList == [] && n == 0)=false:=by rw[hE];simpa using hC
 rw[ep]at KPl;clear hG hC hD hE;go_enter Tryz.func38,Tryz.ntmps38;go_upto_region 1 with fail
 rw[<-HW1.o];obtain⟨x0,x1,x2,x3,x4,x5⟩:=HXC.o _ HB.o;go_wp2_with fail;refine (KAll.o _ HB.o).mono ?_;rintro e w2 ⟨rfl,hb⟩;have hA:=Hd (HB.o.trans (hb.mono HB.o.size));clear hb;clear x0 x1 x2 x3 x4 x5;obtain⟨x0,x1,x2,x3,x4,x5⟩:=HXC.o _ hA.o;go_wp2_with fail;refine (KPl.o _).mono ?_;rintro e w3 ⟨rfl,hb⟩;have hF:=Hd (hA.o.trans (hb.mono hA.o.size));clear hb;clear x0 x1 x2 x3 x4 x5;obtain⟨x0,x1,x2,x3,x4,x5⟩:=HXC.o _ hF.o;go_wp2_with fail;go_ret
 exact⟨by rw[hB.o];rfl,HBZ.o.trans (hF.o.mono HBZ.o.size)⟩
theorem Yx (t:Z8) (n:Int) (ps:List Ty) (fs:Bx) (vs:Bt) (hp:∀p∈ps,Ae p) (hf:∀f∈fs,Ae f.2.2) (hv:∀v∈vs,∀b∈v.2,Ae b) (hH:vs.length=0) (hD:ps.all Aj=true) (hE:t.toList=[]) (hC:n=0) (hG:ps.length≠0):Ae (.mk 14 t n ps fs vs):=by
 refine Bb 14 t n ps fs vs hp hf hv fun K w A c A' c' A'' c'' w1 h=>?_;obtain⟨HXC,KAll,KPl,KNm,KOb,KBi,KOv,HREP,HCN,HBZ,HB,HS1,HX0,HW1,hlp,hlf,hlv⟩:=h;clear hp hf hv;have hB:Z9 (Aj (.mk 14 t n ps fs vs)=false):=Hd (by
  rw[Ay,show Ak 14=⟨false,false,true,false,0,0,true⟩ from rfl,hD];unfold Ao Bs;simp[hH,hE,hC];exact fun h=>absurd (by rw[h];rfl) hG)
 have f3:decide ((0:Int)<(vs.length:Int))=false:=decide_eq_false (by omega);have f4:decide (0<vs.length)=false:=decide_eq_false (by omega);rw[hD]at KAll;have ep:(t.toList == [] && n == 0)=true:=by rw[hE,hC];rfl
 rw[ep]at KPl;have p1:((ps.length:Int) == 0)=false:=beq_eq_false_iff_ne.2 (by omega);have p2:(ps.length == 0)=false:=beq_eq_false_iff_ne.2 (by omega);have p3:decide (ps.length=0)=false:=decide_eq_false (by omega);have p4:decide ((ps.length:Int)=0)=false:=decide_eq_false (by omega);clear hH hG hC hD hE;go_enter Tryz.func38,Tryz.ntmps38;go_upto_region 1 with fail
 rw[<-HW1.o];obtain⟨x0,x1,x2,x3,x4,x5⟩:=HXC.o _ HB.o;go_wp2_with fail;refine (KAll.o _ HB.o).mono ?_;rintro e w2 ⟨rfl,hb⟩;have hA:=Hd (HB.o.trans (hb.mono HB.o.size));clear hb;clear x0 x1 x2 x3 x4 x5;obtain⟨x0,x1,x2,x3,x4,x5⟩:=HXC.o _ hA.o;go_wp2_with fail;refine (KPl.o _).mono ?_;rintro e w3 ⟨rfl,hb⟩;have hF:=Hd (hA.o.trans (hb.mono hA.o.size));clear hb;clear x0 x1 x2 x3 x4 x5;obtain⟨x0,x1,x2,x3,x4,x5⟩:=HXC.o _ hF.o;go_wp2_with fail;go_ret
 exact⟨by rw[hB.o];rfl,HBZ.o.trans (hF.o.mono HBZ.o.size)⟩
theorem Wh (t:Z8) (n:Int) (ps:List Ty) (fs:Bx) (vs:Bt) (hp:∀p∈ps,Ae p) (hf:∀f∈fs,Ae f.2.2) (hv:∀v∈vs,∀b∈v.2,Ae b) (hI:vs.length=0) (hF:ps.all Aj=true) (hG:t.toList=[]) (hD:n=0) (hJ:ps.length=0) (hE:Co (Bq fs Aj)=false):Ae (.mk 14 t n ps fs vs):=by
 refine Bb 14 t n ps fs vs hp hf hv fun K w A c A' c' A'' c'' w1 h=>?_;obtain⟨HXC,KAll,KPl,KNm,KOb,KBi,KOv,HREP,HCN,HBZ,HB,HS1,HX0,HW1,hlp,hlf,hlv⟩:=h;clear hp hf hv;have hC:Z9 (Aj (.mk 14 t n ps fs vs)=false):=Hd (by
  rw[Ay,show Ak 14=⟨false,false,true,false,0,0,true⟩ from rfl,hF];unfold Ao Bs;simp[hI,hG,hD,hE])
 have f3:decide ((0:Int)<(vs.length:Int))=false:=decide_eq_false (by omega);have f4:decide (0<vs.length)=false:=decide_eq_false (by omega);rw[hF]at KAll;have ep:(t.toList == [] && n == 0)=true:=by rw[hG,hD];rfl
 rw[ep]at KPl;have p1:((ps.length:Int) == 0)=true:=beq_iff_eq.2 (by omega);have p2:(ps.length == 0)=true:=beq_iff_eq.2 (by omega);have p3:decide (ps.length=0)=true:=decide_eq_true (by omega);have p4:decide ((ps.length:Int)=0)=true:=decide_eq_true (by omega);rw[hE]at KOb;clear hI hJ hD hF hE hG;go_enter Tryz.func38,Tryz.ntmps38;go_upto_region 1 with fail
 rw[<-HW1.o];obtain⟨x0,x1,x2,x3,x4,x5⟩:=HXC.o _ HB.o;go_wp2_with fail;refine (KAll.o _ HB.o).mono ?_;rintro e w2 ⟨rfl,hb⟩;have hB:=Hd (HB.o.trans (hb.mono HB.o.size));clear hb;clear x0 x1 x2 x3 x4 x5;obtain⟨x0,x1,x2,x3,x4,x5⟩:=HXC.o _ hB.o;go_wp2_with fail;refine (KPl.o _).mono ?_;rintro e w3 ⟨rfl,hb⟩;have hA:=Hd (hB.o.trans (hb.mono hB.o.size));clear hb;clear x0 x1 x2 x3 x4 x5;obtain⟨x0,x1,x2,x3,x4,x5⟩:=HXC.o _ hA.o;go_wp2_with fail;refine (KOb.o _ hA.o).mono ?_;rintro e w4 ⟨rfl,hb⟩;have hH:=Hd (hA.o.trans (hb.mono hA.o.size));clear hb;clear x0 x1 x2 x3 x4 x5;obtain⟨x0,x1,x2,x3,x4,x5⟩:=HXC.o _ hH.o;go_wp2_with fail;go_ret
 exact⟨by rw[hC.o];rfl,HBZ.o.trans (hH.o.mono HBZ.o.size)⟩
theorem Wi (t:Z8) (n:Int) (ps:List Ty) (fs:Bx) (vs:Bt) (hp:∀p∈ps,Ae p) (hf:∀f∈fs,Ae f.2.2) (hv:∀v∈vs,∀b∈v.2,Ae b) (hJ:vs.length=0) (hF:ps.all Aj=true) (hG:t.toList=[]) (hD:n=0) (hI:ps.length=0) (hE:Co (Bq fs Aj)=true):Ae (.mk 14 t n ps fs vs):=by
 refine Bb 14 t n ps fs vs hp hf hv fun K w A c A' c' A'' c'' w1 h=>?_;obtain⟨HXC,KAll,KPl,KNm,KOb,KBi,KOv,HREP,HCN,HBZ,HB,HS1,HX0,HW1,hlp,hlf,hlv⟩:=h;clear hp hf hv;have hC:Z9 (Aj (.mk 14 t n ps fs vs)=true):=Hd (by
  rw[Ay,show Ak 14=⟨false,false,true,false,0,0,true⟩ from rfl,hF];unfold Ao Bs;simp[hJ,hG,hD,hE,hI])
 have f3:decide ((0:Int)<(vs.length:Int))=false:=decide_eq_false (by omega);have f4:decide (0<vs.length)=false:=decide_eq_false (by omega);rw[hF]at KAll;have ep:(t.toList == [] && n == 0)=true:=by rw[hG,hD];rfl
 rw[ep]at KPl;have p1:((ps.length:Int) == 0)=true:=beq_iff_eq.2 (by omega);have p2:(ps.length == 0)=true:=beq_iff_eq.2 (by omega);have p3:decide (ps.length=0)=true:=decide_eq_true (by omega);have p4:decide ((ps.length:Int)=0)=true:=decide_eq_true (by omega);rw[hE]at KOb;clear hJ hI hD hF hE hG;go_enter Tryz.func38,Tryz.ntmps38;go_upto_region 1 with fail
 rw[<-HW1.o];obtain⟨x0,x1,x2,x3,x4,x5⟩:=HXC.o _ HB.o;go_wp2_with fail;refine (KAll.o _ HB.o).mono ?_;rintro e w2 ⟨rfl,hb⟩;have hB:=Hd (HB.o.trans (hb.mono HB.o.size));clear hb;clear x0 x1 x2 x3 x4 x5;obtain⟨x0,x1,x2,x3,x4,x5⟩:=HXC.o _ hB.o;go_wp2_with fail;refine (KPl.o _).mono ?_;rintro e w3 ⟨rfl,hb⟩;have hA:=Hd (hB.o.trans (hb.mono hB.o.size));clear hb;clear x0 x1 x2 x3 x4 x5;obtain⟨x0,x1,x2,x3,x4,x5⟩:=HXC.o _ hA.o;go_wp2_with fail;refine (KOb.o _ hA.o).mono ?_;rintro e w4 ⟨rfl,hb⟩;have hH:=Hd (hA.o.trans (hb.mono hA.o.size));clear hb;clear x0 x1 x2 x3 x4 x5;obtain⟨x0,x1,x2,x3,x4,x5⟩:=HXC.o _ hH.o;go_wp2_with fail;go_ret
 exact⟨by rw[hC.o];rfl,HBZ.o.trans (hH.o.mono HBZ.o.size)⟩
theorem Uo (k:Int) (hk:k=16\/k=22) (t:Z8) (n:Int) (ps:List Ty) (fs:Bx) (vs:Bt) (hp:∀p∈ps,Ae p) (hf:∀f∈fs,Ae f.2.2) (hv:∀v∈vs,∀b∈v.2,Ae b) (hF:fs.length=0) (hG:vs.length=0) (hD:ps.all Aj=true) (hC:B6 t=false):Ae (.mk k t n ps fs vs):=by
 refine Bb k t n ps fs vs hp hf hv fun K w A c A' c' A'' c'' w1 h=>?_;obtain⟨HXC,KAll,KPl,KNm,KOb,KBi,KOv,HREP,HCN,HBZ,HB,HS1,HX0,HW1,hlp,hlf,hlv⟩:=h;clear hp hf hv;have hs:Ak k=⟨true,false,false,false,0,0,true⟩:=by rcases hk with rfl|rfl <;> rfl
 have hB:Z9 (Aj (.mk k t n ps fs vs)=false):=Hd (by
  rcases hk with rfl|rfl
  all_goals (
   rw[Ay,hs,hD];unfold Ao Bs;simp[hF,hG,hC]))
 obtain⟨f1,f2,f3,f4⟩:=F7 (m:=fs.length) (n:=vs.length) (by omega) (by omega);rw[hD]at KAll;rw[hC]at KNm;clear hF hG hD hC;clear hs;rcases hk with rfl|rfl
 all_goals (
  go_enter Tryz.func38,Tryz.ntmps38;go_upto_region 1 with fail
  rw[<-HW1.o];obtain⟨x0,x1,x2,x3,x4,x5⟩:=HXC.o _ HB.o;go_wp2_with fail;refine (KAll.o _ HB.o).mono ?_;rintro e w2 ⟨rfl,hb⟩;have hA:=Hd (HB.o.trans (hb.mono HB.o.size));clear hb;clear x0 x1 x2 x3 x4 x5;obtain⟨x0,x1,x2,x3,x4,x5⟩:=HXC.o _ hA.o;go_wp2_with fail;refine (KNm.o _).mono ?_;rintro e w3 ⟨rfl,hb⟩;have hE:=Hd (hA.o.trans (hb.mono hA.o.size));clear hb;clear x0 x1 x2 x3 x4 x5;obtain⟨x0,x1,x2,x3,x4,x5⟩:=HXC.o _ hE.o;go_wp2_with fail;go_ret
  exact⟨by rw[hB.o];rfl,HBZ.o.trans (hE.o.mono HBZ.o.size)⟩)
theorem Up (k:Int) (hk:k=16\/k=22) (t:Z8) (n:Int) (ps:List Ty) (fs:Bx) (vs:Bt) (hp:∀p∈ps,Ae p) (hf:∀f∈fs,Ae f.2.2) (hv:∀v∈vs,∀b∈v.2,Ae b) (hG:fs.length=0) (hH:vs.length=0) (hE:ps.all Aj=true) (hD:B6 t=true) (hC:n≠0):Ae (.mk k t n ps fs vs):=by
 refine Bb k t n ps fs vs hp hf hv fun K w A c A' c' A'' c'' w1 h=>?_;obtain⟨HXC,KAll,KPl,KNm,KOb,KBi,KOv,HREP,HCN,HBZ,HB,HS1,HX0,HW1,hlp,hlf,hlv⟩:=h;clear hp hf hv;have hs:Ak k=⟨true,false,false,false,0,0,true⟩:=by rcases hk with rfl|rfl <;> rfl
 have hB:Z9 (Aj (.mk k t n ps fs vs)=false):=Hd (by
  rcases hk with rfl|rfl
  all_goals (
   rw[Ay,hs,hE];unfold Ao Bs;simp[hG,hH,hD,hC]))
 obtain⟨f1,f2,f3,f4⟩:=F7 (m:=fs.length) (n:=vs.length) (by omega) (by omega);rw[hE]at KAll;rw[hD]at KNm;have f5:(n == 0)=false:=by simpa using hC
 clear hG hH hC hE hD;clear hs;rcases hk with rfl|rfl
 all_goals (
  go_enter Tryz.func38,Tryz.ntmps38;go_upto_region 1 with fail
  rw[<-HW1.o];obtain⟨x0,x1,x2,x3,x4,x5⟩:=HXC.o _ HB.o;go_wp2_with fail;refine (KAll.o _ HB.o).mono ?_;rintro e w2 ⟨rfl,hb⟩;have hA:=Hd (HB.o.trans (hb.mono HB.o.size));clear hb;clear x0 x1 x2 x3 x4 x5;obtain⟨x0,x1,x2,x3,x4,x5⟩:=HXC.o _ hA.o;go_wp2_with fail;refine (KNm.o _).mono ?_;rintro e w3 ⟨rfl,hb⟩;have hF:=Hd (hA.o.trans (hb.mono hA.o.size));clear hb;clear x0 x1 x2 x3 x4 x5;obtain⟨x0,x1,x2,x3,x4,x5⟩:=HXC.o _ hF.o;go_wp2_with fail;go_ret
  exact⟨by rw[hB.o];rfl,HBZ.o.trans (hF.o.mono HBZ.o.size)⟩)
theorem Uq (k:Int) (hk:k=16\/k=22) (t:Z8) (n:Int) (ps:List Ty) (fs:Bx) (vs:Bt) (hp:∀p∈ps,Ae p) (hf:∀f∈fs,Ae f.2.2) (hv:∀v∈vs,∀b∈v.2,Ae b) (hG:fs.length=0) (hI:vs.length=0) (hE:ps.all Aj=true) (hD:B6 t=true) (hC:n=0) (hH:ps.length≠0):Ae (.mk k t n ps fs vs):=by
 refine Bb k t n ps fs vs hp hf hv fun K w A c A' c' A'' c'' w1 h=>?_;obtain⟨HXC,KAll,KPl,KNm,KOb,KBi,KOv,HREP,HCN,HBZ,HB,HS1,HX0,HW1,hlp,hlf,hlv⟩:=h;clear hp hf hv;have hs:Ak k=⟨true,false,false,false,0,0,true⟩:=by rcases hk with rfl|rfl <;> rfl
 have hB:Z9 (Aj (.mk k t n ps fs vs)=false):=Hd (by
  rcases hk with rfl|rfl
  all_goals (
   rw[Ay,hs,hE];unfold Ao Bs;simp[hG,hI,hD,hC];exact fun h=>hH (by rw[h];rfl)))
 obtain⟨f1,f2,f3,f4⟩:=F7 (m:=fs.length) (n:=vs.length) (by omega) (by omega);rw[hE]at KAll;rw[hD]at KNm;have f5:(n == 0)=true:=by simpa using hC
 have p1:((ps.length:Int) == 0)=false:=beq_eq_false_iff_ne.2 (by omega);have p2:(ps.length == 0)=false:=beq_eq_false_iff_ne.2 (by omega);have p3:decide (ps.length=0)=false:=decide_eq_false (by omega);have p4:decide ((ps.length:Int)=0)=false:=decide_eq_false (by omega);clear hG hI hH hC hE hD;clear hs;rcases hk with rfl|rfl
 all_goals (
  go_enter Tryz.func38,Tryz.ntmps38;go_upto_region 1 with fail
  rw[<-HW1.o];obtain⟨x0,x1,x2,x3,x4,x5⟩:=HXC.o _ HB.o;go_wp2_with fail;refine (KAll.o _ HB.o).mono ?_;rintro e w2 ⟨rfl,hb⟩;have hA:=Hd (HB.o.trans (hb.mono HB.o.size));clear hb;clear x0 x1 x2 x3 x4 x5;obtain⟨x0,x1,x2,x3,x4,x5⟩:=HXC.o _ hA.o;go_wp2_with fail;refine (KNm.o _).mono ?_;rintro e w3 ⟨rfl,hb⟩;have hF:=Hd (hA.o.trans (hb.mono hA.o.size));clear hb;clear x0 x1 x2 x3 x4 x5;obtain⟨x0,x1,x2,x3,x4,x5⟩:=HXC.o _ hF.o;go_wp2_with fail;go_ret
  exact⟨by rw[hB.o];rfl,HBZ.o.trans (hF.o.mono HBZ.o.size)⟩)
theorem Ur (k:Int) (hk:k=16\/k=22) (t:Z8) (n:Int) (ps:List Ty) (fs:Bx) (vs:Bt) (hp:∀p∈ps,Ae p) (hf:∀f∈fs,Ae f.2.2) (hv:∀v∈vs,∀b∈v.2,Ae b) (hG:fs.length=0) (hI:vs.length=0) (hE:ps.all Aj=true) (hD:B6 t=true) (hC:n=0) (hH:ps.length=0):Ae (.mk k t n ps fs vs):=by
 refine Bb k t n ps fs vs hp hf hv fun K w A c A' c' A'' c'' w1 h=>?_;obtain⟨HXC,KAll,KPl,KNm,KOb,KBi,KOv,HREP,HCN,HBZ,HB,HS1,HX0,HW1,hlp,hlf,hlv⟩:=h;clear hp hf hv;have hs:Ak k=⟨true,false,false,false,0,0,true⟩:=by rcases hk with rfl|rfl <;> rfl
 have hB:Z9 (Aj (.mk k t n ps fs vs)=true):=Hd (by
  rcases hk with rfl|rfl
  all_goals (
   rw[Ay,hs,hE];unfold Ao Bs;simp[hG,hI,hD,hC,hH]))
 obtain⟨f1,f2,f3,f4⟩:=F7 (m:=fs.length) (n:=vs.length) (by omega) (by omega);rw[hE]at KAll;rw[hD]at KNm;have f5:(n == 0)=true:=by simpa using hC
 have p1:((ps.length:Int) == 0)=true:=beq_iff_eq.2 (by omega);have p2:(ps.length == 0)=true:=beq_iff_eq.2 (by omega);have p3:decide (ps.length=0)=true:=decide_eq_true (by omega);have p4:decide ((ps.length:Int)=0)=true:=decide_eq_true (by omega);clear hG hI hH hC hE hD;clear hs;rcases hk with rfl|rfl
 all_goals (
  go_enter Tryz.func38,Tryz.ntmps38;go_upto_region 1 with fail
  rw[<-HW1.o];obtain⟨x0,x1,x2,x3,x4,x5⟩:=HXC.o _ HB.o;go_wp2_with fail;refine (KAll.o _ HB.o).mono ?_;rintro e w2 ⟨rfl,hb⟩;have hA:=Hd (HB.o.trans (hb.mono HB.o.size));clear hb;clear x0 x1 x2 x3 x4 x5;obtain⟨x0,x1,x2,x3,x4,x5⟩:=HXC.o _ hA.o;go_wp2_with fail;refine (KNm.o _).mono ?_;rintro e w3 ⟨rfl,hb⟩;have hF:=Hd (hA.o.trans (hb.mono hA.o.size));clear hb;clear x0 x1 x2 x3 x4 x5;obtain⟨x0,x1,x2,x3,x4,x5⟩:=HXC.o _ hF.o;go_wp2_with fail;go_ret
  exact⟨by rw[hB.o];rfl,HBZ.o.trans (hF.o.mono HBZ.o.size)⟩)
theorem Y3 (t:Z8) (n:Int) (ps:List Ty) (fs:Bx) (vs:Bt) (hp:∀p∈ps,Ae p) (hf:∀f∈fs,Ae f.2.2) (hv:∀v∈vs,∀b∈v.2,Ae b) (hF:fs.length=0) (hG:vs.length=0) (hD:ps.all Aj=true) (hC:B6 t=false):Ae (.mk 17 t n ps fs vs):=by
 refine Bb 17 t n ps fs vs hp hf hv fun K w A c A' c' A'' c'' w1 h=>?_;obtain⟨HXC,KAll,KPl,KNm,KOb,KBi,KOv,HREP,HCN,HBZ,HB,HS1,HX0,HW1,hlp,hlf,hlv⟩:=h;clear hp hf hv;have hB:Z9 (Aj (.mk 17 t n ps fs vs)=false):=Hd (by
  rw[Ay,show Ak 17=⟨true,false,false,false,0,-1,true⟩ from rfl,hD];unfold Ao Bs;simp[hF,hG,hC])
 obtain⟨f1,f2,f3,f4⟩:=F7 (m:=fs.length) (n:=vs.length) (by omega) (by omega);rw[hD]at KAll;rw[hC]at KNm;clear hF hG hD hC;go_enter Tryz.func38,Tryz.ntmps38;go_upto_region 1 with fail
 rw[<-HW1.o];obtain⟨x0,x1,x2,x3,x4,x5⟩:=HXC.o _ HB.o;go_wp2_with fail;refine (KAll.o _ HB.o).mono ?_;rintro e w2 ⟨rfl,hb⟩;have hA:=Hd (HB.o.trans (hb.mono HB.o.size));clear hb;clear x0 x1 x2 x3 x4 x5;obtain⟨x0,x1,x2,x3,x4,x5⟩:=HXC.o _ hA.o;go_wp2_with fail;refine (KNm.o _).mono ?_;rintro e w3 ⟨rfl,hb⟩;have hE:=Hd (hA.o.trans (hb.mono hA.o.size));clear hb;clear x0 x1 x2 x3 x4 x5;obtain⟨x0,x1,x2,x3,x4,x5⟩:=HXC.o _ hE.o;go_wp2_with fail;go_ret
 exact⟨by rw[hB.o];rfl,HBZ.o.trans (hE.o.mono HBZ.o.size)⟩
theorem Y4 (t:Z8) (n:Int) (ps:List Ty) (fs:Bx) (vs:Bt) (hp:∀p∈ps,Ae p) (hf:∀f∈fs,Ae f.2.2) (hv:∀v∈vs,∀b∈v.2,Ae b) (hG:fs.length=0) (hH:vs.length=0) (hE:ps.all Aj=true) (hD:B6 t=true) (hC:n≠0):Ae (.mk 17 t n ps fs vs):=by
 refine Bb 17 t n ps fs vs hp hf hv fun K w A c A' c' A'' c'' w1 h=>?_;obtain⟨HXC,KAll,KPl,KNm,KOb,KBi,KOv,HREP,HCN,HBZ,HB,HS1,HX0,HW1,hlp,hlf,hlv⟩:=h;clear hp hf hv;have hB:Z9 (Aj (.mk 17 t n ps fs vs)=false):=Hd (by
  rw[Ay,show Ak 17=⟨true,false,false,false,0,-1,true⟩ from rfl,hE];unfold Ao Bs;simp[hG,hH,hD,hC])
 obtain⟨f1,f2,f3,f4⟩:=F7 (m:=fs.length) (n:=vs.length) (by omega) (by omega);rw[hE]at KAll;rw[hD]at KNm;have f5:(n == 0)=false:=by simpa using hC
 clear hG hH hC hE hD;go_enter Tryz.func38,Tryz.ntmps38;go_upto_region 1 with fail
 rw[<-HW1.o];obtain⟨x0,x1,x2,x3,x4,x5⟩:=HXC.o _ HB.o;go_wp2_with fail;refine (KAll.o _ HB.o).mono ?_;rintro e w2 ⟨rfl,hb⟩;have hA:=Hd (HB.o.trans (hb.mono HB.o.size));clear hb;clear x0 x1 x2 x3 x4 x5;obtain⟨x0,x1,x2,x3,x4,x5⟩:=HXC.o _ hA.o;go_wp2_with fail;refine (KNm.o _).mono ?_;rintro e w3 ⟨rfl,hb⟩;have hF:=Hd (hA.o.trans (hb.mono hA.o.size));clear hb;clear x0 x1 x2 x3 x4 x5;obtain⟨x0,x1,x2,x3,x4,x5⟩:=HXC.o _ hF.o;go_wp2_with fail;go_ret
 exact⟨by rw[hB.o];rfl,HBZ.o.trans (hF.o.mono HBZ.o.size)⟩
theorem Y5 (t:Z8) (n:Int) (ps:List Ty) (fs:Bx) (vs:Bt) (hp:∀p∈ps,Ae p) (hf:∀f∈fs,Ae f.2.2) (hv:∀v∈vs,∀b∈v.2,Ae b) (hG:fs.length=0) (hH:vs.length=0) (hE:ps.all Aj=true) (hD:B6 t=true) (hC:n=0):Ae (.mk 17 t n ps fs vs):=by
 refine Bb 17 t n ps fs vs hp hf hv fun K w A c A' c' A'' c'' w1 h=>?_;obtain⟨HXC,KAll,KPl,KNm,KOb,KBi,KOv,HREP,HCN,HBZ,HB,HS1,HX0,HW1,hlp,hlf,hlv⟩:=h;clear hp hf hv;have hB:Z9 (Aj (.mk 17 t n ps fs vs)=true):=Hd (by
  rw[Ay,show Ak 17=⟨true,false,false,false,0,-1,true⟩ from rfl,hE];unfold Ao Bs;simp[hG,hH,hD,hC])
 obtain⟨f1,f2,f3,f4⟩:=F7 (m:=fs.length) (n:=vs.length) (by omega) (by omega);rw[hE]at KAll;rw[hD]at KNm;have f5:(n == 0)=true:=by simpa using hC
 clear hG hH hC hE hD;go_enter Tryz.func38,Tryz.ntmps38;go_upto_region 1 with fail
 rw[<-HW1.o];obtain⟨x0,x1,x2,x3,x4,x5⟩:=HXC.o _ HB.o;go_wp2_with fail;refine (KAll.o _ HB.o).mono ?_;rintro e w2 ⟨rfl,hb⟩;have hA:=Hd (HB.o.trans (hb.mono HB.o.size));clear hb;clear x0 x1 x2 x3 x4 x5;obtain⟨x0,x1,x2,x3,x4,x5⟩:=HXC.o _ hA.o;go_wp2_with fail;refine (KNm.o _).mono ?_;rintro e w3 ⟨rfl,hb⟩;have hF:=Hd (hA.o.trans (hb.mono hA.o.size));clear hb;clear x0 x1 x2 x3 x4 x5;obtain⟨x0,x1,x2,x3,x4,x5⟩:=HXC.o _ hF.o;go_wp2_with fail;go_ret
 exact⟨by rw[hB.o];rfl,HBZ.o.trans (hF.o.mono HBZ.o.size)⟩
theorem Y8 (t:Z8) (n:Int) (ps:List Ty) (fs:Bx) (vs:Bt) (hp:∀p∈ps,Ae p) (hf:∀f∈fs,Ae f.2.2) (hv:∀v∈vs,∀b∈v.2,Ae b) (hF:fs.length=0) (hG:vs.length=0) (hC:ps.all Aj=true) (a0:UInt8) (l0:List UInt8) (hD:t.toList=a0 :: l0):Ae (.mk 19 t n ps fs vs):=by
 refine Bb 19 t n ps fs vs hp hf hv fun K w A c A' c' A'' c'' w1 h=>?_;obtain⟨HXC,KAll,KPl,KNm,KOb,KBi,KOv,HREP,HCN,HBZ,HB,HS1,HX0,HW1,hlp,hlf,hlv⟩:=h;clear hp hf hv;have hB:Z9 (Aj (.mk 19 t n ps fs vs)=false):=Hd (by
  rw[Ay,show Ak 19=⟨false,false,false,false,2,2,true⟩ from rfl,hC];unfold Ao Bs;simp[hF,hG,hD])
 obtain⟨f1,f2,f3,f4⟩:=F7 (m:=fs.length) (n:=vs.length) (by omega) (by omega);rw[hC]at KAll;have ep:(t.toList == [] && n == 0)=false:=by rw[hD];rfl
 rw[ep]at KPl;clear hF hG hC hD;go_enter Tryz.func38,Tryz.ntmps38;go_upto_region 1 with fail
 rw[<-HW1.o];obtain⟨x0,x1,x2,x3,x4,x5⟩:=HXC.o _ HB.o;go_wp2_with fail;refine (KAll.o _ HB.o).mono ?_;rintro e w2 ⟨rfl,hb⟩;have hA:=Hd (HB.o.trans (hb.mono HB.o.size));clear hb;clear x0 x1 x2 x3 x4 x5;obtain⟨x0,x1,x2,x3,x4,x5⟩:=HXC.o _ hA.o;go_wp2_with fail;refine (KPl.o _).mono ?_;rintro e w3 ⟨rfl,hb⟩;have hE:=Hd (hA.o.trans (hb.mono hA.o.size));clear hb;clear x0 x1 x2 x3 x4 x5;obtain⟨x0,x1,x2,x3,x4,x5⟩:=HXC.o _ hE.o;go_wp2_with fail;go_ret
 exact⟨by rw[hB.o];rfl,HBZ.o.trans (hE.o.mono HBZ.o.size)⟩
theorem Y6 (t:Z8) (n:Int) (ps:List Ty) (fs:Bx) (vs:Bt) (hp:∀p∈ps,Ae p) (hf:∀f∈fs,Ae f.2.2) (hv:∀v∈vs,∀b∈v.2,Ae b) (hG:fs.length=0) (hH:vs.length=0) (hD:ps.all Aj=true) (hE:t.toList=[]) (hC:n≠0):Ae (.mk 19 t n ps fs vs):=by
 refine Bb 19 t n ps fs vs hp hf hv fun K w A c A' c' A'' c'' w1 h=>?_;obtain⟨HXC,KAll,KPl,KNm,KOb,KBi,KOv,HREP,HCN,HBZ,HB,HS1,HX0,HW1,hlp,hlf,hlv⟩:=h;clear hp hf hv;have hB:Z9 (Aj (.mk 19 t n ps fs vs)=false):=Hd (by
  rw[Ay,show Ak 19=⟨false,false,false,false,2,2,true⟩ from rfl,hD];unfold Ao Bs;simp[hG,hH,hE,hC])
 obtain⟨f1,f2,f3,f4⟩:=F7 (m:=fs.length) (n:=vs.length) (by omega) (by omega);rw[hD]at KAll;have ep:(t.toList == [] && n == 0)=false:=by rw[hE];simpa using hC
 rw[ep]at KPl;clear hG hH hC hD hE;go_enter Tryz.func38,Tryz.ntmps38;go_upto_region 1 with fail
 rw[<-HW1.o];obtain⟨x0,x1,x2,x3,x4,x5⟩:=HXC.o _ HB.o;go_wp2_with fail;refine (KAll.o _ HB.o).mono ?_;rintro e w2 ⟨rfl,hb⟩;have hA:=Hd (HB.o.trans (hb.mono HB.o.size));clear hb;clear x0 x1 x2 x3 x4 x5;obtain⟨x0,x1,x2,x3,x4,x5⟩:=HXC.o _ hA.o;go_wp2_with fail;refine (KPl.o _).mono ?_;rintro e w3 ⟨rfl,hb⟩;have hF:=Hd (hA.o.trans (hb.mono hA.o.size));clear hb;clear x0 x1 x2 x3 x4 x5;obtain⟨x0,x1,x2,x3,x4,x5⟩:=HXC.o _ hF.o;go_wp2_with fail;go_ret
 exact⟨by rw[hB.o];rfl,HBZ.o.trans (hF.o.mono HBZ.o.size)⟩
theorem Y7 (t:Z8) (n:Int) (ps:List Ty) (fs:Bx) (vs:Bt) (hp:∀p∈ps,Ae p) (hf:∀f∈fs,Ae f.2.2) (hv:∀v∈vs,∀b∈v.2,Ae b) (hG:fs.length=0) (hH:vs.length=0) (hD:ps.all Aj=true) (hE:t.toList=[]) (hC:n=0) (hI:ps.length≠2):Ae (.mk 19 t n ps fs vs):=by
 refine Bb 19 t n ps fs vs hp hf hv fun K w A c A' c' A'' c'' w1 h=>?_;obtain⟨HXC,KAll,KPl,KNm,KOb,KBi,KOv,HREP,HCN,HBZ,HB,HS1,HX0,HW1,hlp,hlf,hlv⟩:=h;clear hp hf hv;have hB:Z9 (Aj (.mk 19 t n ps fs vs)=false):=Hd (by
  rw[Ay,show Ak 19=⟨false,false,false,false,2,2,true⟩ from rfl,hD];unfold Ao Bs;simp[hG,hH,hE,hC];omega)
 obtain⟨f1,f2,f3,f4⟩:=F7 (m:=fs.length) (n:=vs.length) (by omega) (by omega);rw[hD]at KAll;have ep:(t.toList == [] && n == 0)=true:=by rw[hE,hC];rfl
 rw[ep]at KPl;have p1:((ps.length:Int) == 2)=false:=beq_eq_false_iff_ne.2 (by omega);have p2:(ps.length == 2)=false:=beq_eq_false_iff_ne.2 (by omega);have p3:decide (ps.length=2)=false:=decide_eq_false (by omega);have p4:decide ((ps.length:Int)=2)=false:=decide_eq_false (by omega);clear hG hH hI hC hD hE;go_enter Tryz.func38,Tryz.ntmps38;go_upto_region 1 with fail
 rw[<-HW1.o];obtain⟨x0,x1,x2,x3,x4,x5⟩:=HXC.o _ HB.o;go_wp2_with fail;refine (KAll.o _ HB.o).mono ?_;rintro e w2 ⟨rfl,hb⟩;have hA:=Hd (HB.o.trans (hb.mono HB.o.size));clear hb;clear x0 x1 x2 x3 x4 x5;obtain⟨x0,x1,x2,x3,x4,x5⟩:=HXC.o _ hA.o;go_wp2_with fail;refine (KPl.o _).mono ?_;rintro e w3 ⟨rfl,hb⟩;have hF:=Hd (hA.o.trans (hb.mono hA.o.size));clear hb;clear x0 x1 x2 x3 x4 x5;obtain⟨x0,x1,x2,x3,x4,x5⟩:=HXC.o _ hF.o;go_wp2_with fail;go_ret
 exact⟨by rw[hB.o];rfl,HBZ.o.trans (hF.o.mono HBZ.o.size)⟩
theorem Y9 (t:Z8) (n:Int) (ps:List Ty) (fs:Bx) (vs:Bt) (hp:∀p∈ps,Ae p) (hf:∀f∈fs,Ae f.2.2) (hv:∀v∈vs,∀b∈v.2,Ae b) (hG:fs.length=0) (hI:vs.length=0) (hD:ps.all Aj=true) (hE:t.toList=[]) (hC:n=0) (hH:ps.length=2):Ae (.mk 19 t n ps fs vs):=by
 refine Bb 19 t n ps fs vs hp hf hv fun K w A c A' c' A'' c'' w1 h=>?_;obtain⟨HXC,KAll,KPl,KNm,KOb,KBi,KOv,HREP,HCN,HBZ,HB,HS1,HX0,HW1,hlp,hlf,hlv⟩:=h;clear hp hf hv;have hB:Z9 (Aj (.mk 19 t n ps fs vs)=true):=Hd (by
  rw[Ay,show Ak 19=⟨false,false,false,false,2,2,true⟩ from rfl,hD];unfold Ao Bs;simp[hG,hI,hE,hC,hH])
 obtain⟨f1,f2,f3,f4⟩:=F7 (m:=fs.length) (n:=vs.length) (by omega) (by omega);rw[hD]at KAll;have ep:(t.toList == [] && n == 0)=true:=by rw[hE,hC];rfl
 rw[ep]at KPl;have p1:((ps.length:Int) == 2)=true:=beq_iff_eq.2 (by omega);have p2:(ps.length == 2)=true:=beq_iff_eq.2 (by omega);have p3:decide (ps.length=2)=true:=decide_eq_true (by omega);have p4:decide ((ps.length:Int)=2)=true:=decide_eq_true (by omega);clear hG hI hH hC hD hE;go_enter Tryz.func38,Tryz.ntmps38;go_upto_region 1 with fail
 rw[<-HW1.o];obtain⟨x0,x1,x2,x3,x4,x5⟩:=HXC.o _ HB.o;go_wp2_with fail;refine (KAll.o _ HB.o).mono ?_;rintro e w2 ⟨rfl,hb⟩;have hA:=Hd (HB.o.trans (hb.mono HB.o.size));clear hb;clear x0 x1 x2 x3 x4 x5;obtain⟨x0,x1,x2,x3,x4,x5⟩:=HXC.o _ hA.o;go_wp2_with fail;refine (KPl.o _).mono ?_;rintro e w3 ⟨rfl,hb⟩;have hF:=Hd (hA.o.trans (hb.mono hA.o.size));clear hb;clear x0 x1 x2 x3 x4 x5;obtain⟨x0,x1,x2,x3,x4,x5⟩:=HXC.o _ hF.o;go_wp2_with fail;go_ret
 exact⟨by rw[hB.o];rfl,HBZ.o.trans (hF.o.mono HBZ.o.size)⟩
