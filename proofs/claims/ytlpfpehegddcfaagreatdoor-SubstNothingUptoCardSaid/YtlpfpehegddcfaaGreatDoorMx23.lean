import Derived.Test.YtlpfpehegddcfaaGreatDoorMx22
namespace Go.Proofs.YtlpfpehegddcfaaGreatDoor
set_option maxRecDepth 100000
set_option maxHeartbeats 64000000
open Go.RowKit
theorem Jbv (k:Int) (hk:k=1\/k=2\/k=3\/k=4\/k=5\/k=6\/k=7\/k=8) (t:Z8) (n:Int) (ps:List Ty) (fs:Bx) (vs:Bt) (hp:∀p∈ps,Ae p) (hf:∀f∈fs,Ae f.2.2) (hv:∀v∈vs,∀b∈v.2,Ae b) (hF:fs.length=0) (hG:vs.length=0) (hC:ps.all Aj=true) (a0:UInt8) (l0:List UInt8) (hD:t.toList=a0 :: l0):Ae (.mk k t n ps fs vs):=by
 refine Bb k t n ps fs vs hp hf hv fun K w A c A' c' A'' c'' w1 h=>?_;obtain⟨HXC,KAll,KPl,KNm,KOb,KBi,KOv,HREP,HCN,HBZ,HB,HS1,HX0,HW1,hlp,hlf,hlv⟩:=h;clear hp hf hv;have hs:Ak k=⟨false,false,false,false,0,0,true⟩:=by rcases hk with rfl|rfl|rfl|rfl|rfl|rfl|rfl|rfl <;> rfl
 have hB:Z9 (Aj (.mk k t n ps fs vs)=false):=Hd (by
  rcases hk with rfl|rfl|rfl|rfl|rfl|rfl|rfl|rfl
  all_goals (
   rw[Ay,hs,hC];unfold Ao Bs;simp[hF,hG,hD]))
 obtain⟨f1,f2,f3,f4⟩:=F7 (m:=fs.length) (n:=vs.length) (by omega) (by omega);rw[hC]at KAll;have ep:(t.toList == [] && n == 0)=false:=by rw[hD];rfl
 rw[ep]at KPl;clear hF hG hC hD;clear hs;rcases hk with rfl|rfl|rfl|rfl|rfl|rfl|rfl|rfl
 all_goals (
  go_enter Tryz.func38,Tryz.ntmps38;go_upto_region 1 with fail
  rw[<-HW1.o];obtain⟨x0,x1,x2,x3,x4,x5⟩:=HXC.o _ HB.o;go_wp2_with fail;refine (KAll.o _ HB.o).mono ?_;rintro e w2 ⟨rfl,hb⟩;have hA:=Hd (HB.o.trans (hb.mono HB.o.size));clear hb;clear x0 x1 x2 x3 x4 x5;obtain⟨x0,x1,x2,x3,x4,x5⟩:=HXC.o _ hA.o;go_wp2_with fail;refine (KPl.o _).mono ?_;rintro e w3 ⟨rfl,hb⟩;have hE:=Hd (hA.o.trans (hb.mono hA.o.size));clear hb;clear x0 x1 x2 x3 x4 x5;obtain⟨x0,x1,x2,x3,x4,x5⟩:=HXC.o _ hE.o;go_wp2_with fail;go_ret
  exact⟨by rw[hB.o];rfl,HBZ.o.trans (hE.o.mono HBZ.o.size)⟩)
theorem Jbt (k:Int) (hk:k=1\/k=2\/k=3\/k=4\/k=5\/k=6\/k=7\/k=8) (t:Z8) (n:Int) (ps:List Ty) (fs:Bx) (vs:Bt) (hp:∀p∈ps,Ae p) (hf:∀f∈fs,Ae f.2.2) (hv:∀v∈vs,∀b∈v.2,Ae b) (hG:fs.length=0) (hH:vs.length=0) (hD:ps.all Aj=true) (hE:t.toList=[]) (hC:n≠0):Ae (.mk k t n ps fs vs):=by
 refine Bb k t n ps fs vs hp hf hv fun K w A c A' c' A'' c'' w1 h=>?_;obtain⟨HXC,KAll,KPl,KNm,KOb,KBi,KOv,HREP,HCN,HBZ,HB,HS1,HX0,HW1,hlp,hlf,hlv⟩:=h;clear hp hf hv;have hs:Ak k=⟨false,false,false,false,0,0,true⟩:=by rcases hk with rfl|rfl|rfl|rfl|rfl|rfl|rfl|rfl <;> rfl
 have hB:Z9 (Aj (.mk k t n ps fs vs)=false):=Hd (by
  rcases hk with rfl|rfl|rfl|rfl|rfl|rfl|rfl|rfl
  all_goals (
   rw[Ay,hs,hD];unfold Ao Bs;simp[hG,hH,hE,hC]))
 obtain⟨f1,f2,f3,f4⟩:=F7 (m:=fs.length) (n:=vs.length) (by omega) (by omega);rw[hD]at KAll;have ep:(t.toList == [] && n == 0)=false:=by rw[hE];simpa using hC
 rw[ep]at KPl;clear hG hH hC hD hE;clear hs;rcases hk with rfl|rfl|rfl|rfl|rfl|rfl|rfl|rfl
 all_goals (
  go_enter Tryz.func38,Tryz.ntmps38;go_upto_region 1 with fail
  rw[<-HW1.o];obtain⟨x0,x1,x2,x3,x4,x5⟩:=HXC.o _ HB.o;go_wp2_with fail;refine (KAll.o _ HB.o).mono ?_;rintro e w2 ⟨rfl,hb⟩;have hA:=Hd (HB.o.trans (hb.mono HB.o.size));clear hb;clear x0 x1 x2 x3 x4 x5;obtain⟨x0,x1,x2,x3,x4,x5⟩:=HXC.o _ hA.o;go_wp2_with fail;refine (KPl.o _).mono ?_;rintro e w3 ⟨rfl,hb⟩;have hF:=Hd (hA.o.trans (hb.mono hA.o.size));clear hb;clear x0 x1 x2 x3 x4 x5;obtain⟨x0,x1,x2,x3,x4,x5⟩:=HXC.o _ hF.o;go_wp2_with fail;go_ret
  exact⟨by rw[hB.o];rfl,HBZ.o.trans (hF.o.mono HBZ.o.size)⟩)
theorem Jbu (k:Int) (hk:k=1\/k=2\/k=3\/k=4\/k=5\/k=6\/k=7\/k=8) (t:Z8) (n:Int) (ps:List Ty) (fs:Bx) (vs:Bt) (hp:∀p∈ps,Ae p) (hf:∀f∈fs,Ae f.2.2) (hv:∀v∈vs,∀b∈v.2,Ae b) (hG:fs.length=0) (hI:vs.length=0) (hD:ps.all Aj=true) (hE:t.toList=[]) (hC:n=0) (hH:ps.length≠0):Ae (.mk k t n ps fs vs):=by
 refine Bb k t n ps fs vs hp hf hv fun K w A c A' c' A'' c'' w1 h=>?_;obtain⟨HXC,KAll,KPl,KNm,KOb,KBi,KOv,HREP,HCN,HBZ,HB,HS1,HX0,HW1,hlp,hlf,hlv⟩:=h;clear hp hf hv;have hs:Ak k=⟨false,false,false,false,0,0,true⟩:=by rcases hk with rfl|rfl|rfl|rfl|rfl|rfl|rfl|rfl <;> rfl
 have hB:Z9 (Aj (.mk k t n ps fs vs)=false):=Hd (by
  rcases hk with rfl|rfl|rfl|rfl|rfl|rfl|rfl|rfl
  all_goals (
   rw[Ay,hs,hD];unfold Ao Bs;simp[hG,hI,hE,hC];exact fun h=>hH (by rw[h];rfl)))
 obtain⟨f1,f2,f3,f4⟩:=F7 (m:=fs.length) (n:=vs.length) (by omega) (by omega);rw[hD]at KAll;have ep:(t.toList == [] && n == 0)=true:=by rw[hE,hC];rfl
 rw[ep]at KPl;have p1:((ps.length:Int) == 0)=false:=beq_eq_false_iff_ne.2 (by omega);have p2:(ps.length == 0)=false:=beq_eq_false_iff_ne.2 (by omega);have p3:decide (ps.length=0)=false:=decide_eq_false (by omega);have p4:decide ((ps.length:Int)=0)=false:=decide_eq_false (by omega);clear hG hI hH hC hD hE;clear hs;rcases hk with rfl|rfl|rfl|rfl|rfl|rfl|rfl|rfl
 all_goals (
  go_enter Tryz.func38,Tryz.ntmps38;go_upto_region 1 with fail
  rw[<-HW1.o];obtain⟨x0,x1,x2,x3,x4,x5⟩:=HXC.o _ HB.o;go_wp2_with fail;refine (KAll.o _ HB.o).mono ?_;rintro e w2 ⟨rfl,hb⟩;have hA:=Hd (HB.o.trans (hb.mono HB.o.size));clear hb;clear x0 x1 x2 x3 x4 x5;obtain⟨x0,x1,x2,x3,x4,x5⟩:=HXC.o _ hA.o;go_wp2_with fail;refine (KPl.o _).mono ?_;rintro e w3 ⟨rfl,hb⟩;have hF:=Hd (hA.o.trans (hb.mono hA.o.size));clear hb;clear x0 x1 x2 x3 x4 x5;obtain⟨x0,x1,x2,x3,x4,x5⟩:=HXC.o _ hF.o;go_wp2_with fail;go_ret
  exact⟨by rw[hB.o];rfl,HBZ.o.trans (hF.o.mono HBZ.o.size)⟩)
theorem Jbw (k:Int) (hk:k=1\/k=2\/k=3\/k=4\/k=5\/k=6\/k=7\/k=8) (t:Z8) (n:Int) (ps:List Ty) (fs:Bx) (vs:Bt) (hp:∀p∈ps,Ae p) (hf:∀f∈fs,Ae f.2.2) (hv:∀v∈vs,∀b∈v.2,Ae b) (hG:fs.length=0) (hI:vs.length=0) (hD:ps.all Aj=true) (hE:t.toList=[]) (hC:n=0) (hH:ps.length=0):Ae (.mk k t n ps fs vs):=by
 refine Bb k t n ps fs vs hp hf hv fun K w A c A' c' A'' c'' w1 h=>?_;obtain⟨HXC,KAll,KPl,KNm,KOb,KBi,KOv,HREP,HCN,HBZ,HB,HS1,HX0,HW1,hlp,hlf,hlv⟩:=h;clear hp hf hv;have hs:Ak k=⟨false,false,false,false,0,0,true⟩:=by rcases hk with rfl|rfl|rfl|rfl|rfl|rfl|rfl|rfl <;> rfl
 have hB:Z9 (Aj (.mk k t n ps fs vs)=true):=Hd (by
  rcases hk with rfl|rfl|rfl|rfl|rfl|rfl|rfl|rfl
  all_goals (
   rw[Ay,hs,hD];unfold Ao Bs;simp[hG,hI,hE,hC,hH]))
 obtain⟨f1,f2,f3,f4⟩:=F7 (m:=fs.length) (n:=vs.length) (by omega) (by omega);rw[hD]at KAll;have ep:(t.toList == [] && n == 0)=true:=by rw[hE,hC];rfl
 rw[ep]at KPl;have p1:((ps.length:Int) == 0)=true:=beq_iff_eq.2 (by omega);have p2:(ps.length == 0)=true:=beq_iff_eq.2 (by omega);have p3:decide (ps.length=0)=true:=decide_eq_true (by omega);have p4:decide ((ps.length:Int)=0)=true:=decide_eq_true (by omega);clear hG hI hH hC hD hE;clear hs;rcases hk with rfl|rfl|rfl|rfl|rfl|rfl|rfl|rfl
 all_goals (
  go_enter Tryz.func38,Tryz.ntmps38;go_upto_region 1 with fail
  rw[<-HW1.o];obtain⟨x0,x1,x2,x3,x4,x5⟩:=HXC.o _ HB.o;go_wp2_with fail;refine (KAll.o _ HB.o).mono ?_;rintro e w2 ⟨rfl,hb⟩;have hA:=Hd (HB.o.trans (hb.mono HB.o.size));clear hb;clear x0 x1 x2 x3 x4 x5;obtain⟨x0,x1,x2,x3,x4,x5⟩:=HXC.o _ hA.o;go_wp2_with fail;refine (KPl.o _).mono ?_;rintro e w3 ⟨rfl,hb⟩;have hF:=Hd (hA.o.trans (hb.mono hA.o.size));clear hb;clear x0 x1 x2 x3 x4 x5;obtain⟨x0,x1,x2,x3,x4,x5⟩:=HXC.o _ hF.o;go_wp2_with fail;go_ret
  exact⟨by rw[hB.o];rfl,HBZ.o.trans (hF.o.mono HBZ.o.size)⟩)
theorem Jbr (t:Z8) (n:Int) (ps:List Ty) (fs:Bx) (vs:Bt) (hp:∀p∈ps,Ae p) (hf:∀f∈fs,Ae f.2.2) (hv:∀v∈vs,∀b∈v.2,Ae b) (hD:fs.length=0) (hE:vs.length=0) (hB:ps.all Aj=true) (a0:UInt8) (l0:List UInt8) (hF:t.toList=a0 :: l0):Ae (.mk 9 t n ps fs vs):=by
 refine Bb 9 t n ps fs vs hp hf hv fun K w A c A' c' A'' c'' w1 h=>?_;obtain⟨HXC,KAll,KPl,KNm,KOb,KBi,KOv,HREP,HCN,HBZ,HB,HS1,HX0,HW1,hlp,hlf,hlv⟩:=h;clear hp hf hv;have hA:Z9 (Aj (.mk 9 t n ps fs vs)=false):=Hd (by
  rw[Ay,show Ak 9=⟨false,true,false,false,0,0,true⟩ from rfl,hB];unfold Ao Bs;simp[hD,hE,hF])
 obtain⟨f1,f2,f3,f4⟩:=F7 (m:=fs.length) (n:=vs.length) (by omega) (by omega);rw[hB]at KAll;clear hD hE hB;go_enter Tryz.func38,Tryz.ntmps38;go_upto_region 1 with fail
 rw[<-HW1.o];obtain⟨x0,x1,x2,x3,x4,x5⟩:=HXC.o _ HB.o;go_wp2_with fail;refine (KAll.o _ HB.o).mono ?_;rintro e w2 ⟨rfl,hb⟩;have hC:=Hd (HB.o.trans (hb.mono HB.o.size));clear hb;clear x0 x1 x2 x3 x4 x5;obtain⟨x0,x1,x2,x3,x4,x5⟩:=HXC.o _ hC.o;go_wp2_with fail;go_ret
 exact⟨by rw[hA.o];rfl,HBZ.o.trans (hC.o.mono HBZ.o.size)⟩
theorem Jbp (t:Z8) (n:Int) (ps:List Ty) (fs:Bx) (vs:Bt) (hp:∀p∈ps,Ae p) (hf:∀f∈fs,Ae f.2.2) (hv:∀v∈vs,∀b∈v.2,Ae b) (hE:fs.length=0) (hF:vs.length=0) (hB:ps.all Aj=true) (hG:t.toList=[]) (hD:¬ 0<=n):Ae (.mk 9 t n ps fs vs):=by
 refine Bb 9 t n ps fs vs hp hf hv fun K w A c A' c' A'' c'' w1 h=>?_;obtain⟨HXC,KAll,KPl,KNm,KOb,KBi,KOv,HREP,HCN,HBZ,HB,HS1,HX0,HW1,hlp,hlf,hlv⟩:=h;clear hp hf hv;have hA:Z9 (Aj (.mk 9 t n ps fs vs)=false):=Hd (by
  rw[Ay,show Ak 9=⟨false,true,false,false,0,0,true⟩ from rfl,hB];unfold Ao Bs;simp[hE,hF,hG];exact fun _=>by omega)
 obtain⟨f1,f2,f3,f4⟩:=F7 (m:=fs.length) (n:=vs.length) (by omega) (by omega);rw[hB]at KAll;have f5:decide (0<=n)=false:=decide_eq_false hD;clear hE hF hD hB;go_enter Tryz.func38,Tryz.ntmps38;go_upto_region 1 with fail
 rw[<-HW1.o];obtain⟨x0,x1,x2,x3,x4,x5⟩:=HXC.o _ HB.o;go_wp2_with fail;refine (KAll.o _ HB.o).mono ?_;rintro e w2 ⟨rfl,hb⟩;have hC:=Hd (HB.o.trans (hb.mono HB.o.size));clear hb;clear x0 x1 x2 x3 x4 x5;obtain⟨x0,x1,x2,x3,x4,x5⟩:=HXC.o _ hC.o;go_wp2_with fail;go_ret
 exact⟨by rw[hA.o];rfl,HBZ.o.trans (hC.o.mono HBZ.o.size)⟩
theorem Jbq (t:Z8) (n:Int) (ps:List Ty) (fs:Bx) (vs:Bt) (hp:∀p∈ps,Ae p) (hf:∀f∈fs,Ae f.2.2) (hv:∀v∈vs,∀b∈v.2,Ae b) (hE:fs.length=0) (hG:vs.length=0) (hC:ps.all Aj=true) (hH:t.toList=[]) (hB:0<=n) (hF:ps.length≠0):Ae (.mk 9 t n ps fs vs):=by
 refine Bb 9 t n ps fs vs hp hf hv fun K w A c A' c' A'' c'' w1 h=>?_;obtain⟨HXC,KAll,KPl,KNm,KOb,KBi,KOv,HREP,HCN,HBZ,HB,HS1,HX0,HW1,hlp,hlf,hlv⟩:=h;clear hp hf hv;have hA:Z9 (Aj (.mk 9 t n ps fs vs)=false):=Hd (by
  rw[Ay,show Ak 9=⟨false,true,false,false,0,0,true⟩ from rfl,hC];unfold Ao Bs;simp[hE,hG,hH,hB];exact fun h=>hF (by rw[h];rfl))
 obtain⟨f1,f2,f3,f4⟩:=F7 (m:=fs.length) (n:=vs.length) (by omega) (by omega);rw[hC]at KAll;have f5:decide (0<=n)=true:=decide_eq_true hB;have p1:((ps.length:Int) == 0)=false:=beq_eq_false_iff_ne.2 (by omega);have p2:(ps.length == 0)=false:=beq_eq_false_iff_ne.2 (by omega);have p3:decide (ps.length=0)=false:=decide_eq_false (by omega);have p4:decide ((ps.length:Int)=0)=false:=decide_eq_false (by omega);clear hE hG hF hB hC;go_enter Tryz.func38,Tryz.ntmps38;go_upto_region 1 with fail
 rw[<-HW1.o];obtain⟨x0,x1,x2,x3,x4,x5⟩:=HXC.o _ HB.o;go_wp2_with fail;refine (KAll.o _ HB.o).mono ?_;rintro e w2 ⟨rfl,hb⟩;have hD:=Hd (HB.o.trans (hb.mono HB.o.size));clear hb;clear x0 x1 x2 x3 x4 x5;obtain⟨x0,x1,x2,x3,x4,x5⟩:=HXC.o _ hD.o;go_wp2_with fail;go_ret
 exact⟨by rw[hA.o];rfl,HBZ.o.trans (hD.o.mono HBZ.o.size)⟩
theorem Jbs (t:Z8) (n:Int) (ps:List Ty) (fs:Bx) (vs:Bt) (hp:∀p∈ps,Ae p) (hf:∀f∈fs,Ae f.2.2) (hv:∀v∈vs,∀b∈v.2,Ae b) (hE:fs.length=0) (hG:vs.length=0) (hC:ps.all Aj=true) (hH:t.toList=[]) (hB:0<=n) (hF:ps.length=0):Ae (.mk 9 t n ps fs vs):=by
 refine Bb 9 t n ps fs vs hp hf hv fun K w A c A' c' A'' c'' w1 h=>?_;obtain⟨HXC,KAll,KPl,KNm,KOb,KBi,KOv,HREP,HCN,HBZ,HB,HS1,HX0,HW1,hlp,hlf,hlv⟩:=h;clear hp hf hv;have hA:Z9 (Aj (.mk 9 t n ps fs vs)=true):=Hd (by
  rw[Ay,show Ak 9=⟨false,true,false,false,0,0,true⟩ from rfl,hC];unfold Ao Bs;simp[hE,hG,hH,hB,hF])
 obtain⟨f1,f2,f3,f4⟩:=F7 (m:=fs.length) (n:=vs.length) (by omega) (by omega);rw[hC]at KAll;have f5:decide (0<=n)=true:=decide_eq_true hB;have p1:((ps.length:Int) == 0)=true:=beq_iff_eq.2 (by omega);have p2:(ps.length == 0)=true:=beq_iff_eq.2 (by omega);have p3:decide (ps.length=0)=true:=decide_eq_true (by omega);have p4:decide ((ps.length:Int)=0)=true:=decide_eq_true (by omega);clear hE hG hF hB hC;go_enter Tryz.func38,Tryz.ntmps38;go_upto_region 1 with fail
 rw[<-HW1.o];obtain⟨x0,x1,x2,x3,x4,x5⟩:=HXC.o _ HB.o;go_wp2_with fail;refine (KAll.o _ HB.o).mono ?_;rintro e w2 ⟨rfl,hb⟩;have hD:=Hd (HB.o.trans (hb.mono HB.o.size));clear hb;clear x0 x1 x2 x3 x4 x5;obtain⟨x0,x1,x2,x3,x4,x5⟩:=HXC.o _ hD.o;go_wp2_with fail;go_ret
 exact⟨by rw[hA.o];rfl,HBZ.o.trans (hD.o.mono HBZ.o.size)⟩
theorem Yn (t:Z8) (n:Int) (ps:List Ty) (fs:Bx) (vs:Bt) (hp:∀p∈ps,Ae p) (hf:∀f∈fs,Ae f.2.2) (hv:∀v∈vs,∀b∈v.2,Ae b) (hE:fs.length=0) (hF:vs.length=0) (hC:ps.all Aj=true) (hB:n≠0):Ae (.mk 10 t n ps fs vs):=by
 refine Bb 10 t n ps fs vs hp hf hv fun K w A c A' c' A'' c'' w1 h=>?_;obtain⟨HXC,KAll,KPl,KNm,KOb,KBi,KOv,HREP,HCN,HBZ,HB,HS1,HX0,HW1,hlp,hlf,hlv⟩:=h;clear hp hf hv;have hA:Z9 (Aj (.mk 10 t n ps fs vs)=false):=Hd (by
  rw[Ay,show Ak 10=⟨true,false,false,false,0,0,true⟩ from rfl,hC];unfold Ao Bs;simp[hE,hF,hB])
 obtain⟨f1,f2,f3,f4⟩:=F7 (m:=fs.length) (n:=vs.length) (by omega) (by omega);rw[hC]at KAll;have f5:(n == 0)=false:=by simpa using hB
 clear hE hF hB hC;go_enter Tryz.func38,Tryz.ntmps38;go_upto_region 1 with fail
 rw[<-HW1.o];obtain⟨x0,x1,x2,x3,x4,x5⟩:=HXC.o _ HB.o;go_wp2_with fail;refine (KAll.o _ HB.o).mono ?_;rintro e w2 ⟨rfl,hb⟩;have hD:=Hd (HB.o.trans (hb.mono HB.o.size));clear hb;clear x0 x1 x2 x3 x4 x5;obtain⟨x0,x1,x2,x3,x4,x5⟩:=HXC.o _ hD.o;go_wp2_with fail;go_ret
 exact⟨by rw[hA.o];rfl,HBZ.o.trans (hD.o.mono HBZ.o.size)⟩
theorem Yo (t:Z8) (n:Int) (ps:List Ty) (fs:Bx) (vs:Bt) (hp:∀p∈ps,Ae p) (hf:∀f∈fs,Ae f.2.2) (hv:∀v∈vs,∀b∈v.2,Ae b) (hE:fs.length=0) (hG:vs.length=0) (hC:ps.all Aj=true) (hB:n=0) (hF:ps.length≠0):Ae (.mk 10 t n ps fs vs):=by
 refine Bb 10 t n ps fs vs hp hf hv fun K w A c A' c' A'' c'' w1 h=>?_;obtain⟨HXC,KAll,KPl,KNm,KOb,KBi,KOv,HREP,HCN,HBZ,HB,HS1,HX0,HW1,hlp,hlf,hlv⟩:=h;clear hp hf hv;have hA:Z9 (Aj (.mk 10 t n ps fs vs)=false):=Hd (by
  rw[Ay,show Ak 10=⟨true,false,false,false,0,0,true⟩ from rfl,hC];unfold Ao Bs;simp[hE,hG,hB];exact fun h=>hF (by rw[h];rfl))
 obtain⟨f1,f2,f3,f4⟩:=F7 (m:=fs.length) (n:=vs.length) (by omega) (by omega);rw[hC]at KAll;have f5:(n == 0)=true:=by simpa using hB
 have p1:((ps.length:Int) == 0)=false:=beq_eq_false_iff_ne.2 (by omega);have p2:(ps.length == 0)=false:=beq_eq_false_iff_ne.2 (by omega);have p3:decide (ps.length=0)=false:=decide_eq_false (by omega);have p4:decide ((ps.length:Int)=0)=false:=decide_eq_false (by omega);clear hE hG hF hB hC;go_enter Tryz.func38,Tryz.ntmps38;go_upto_region 1 with fail
 rw[<-HW1.o];obtain⟨x0,x1,x2,x3,x4,x5⟩:=HXC.o _ HB.o;go_wp2_with fail;refine (KAll.o _ HB.o).mono ?_;rintro e w2 ⟨rfl,hb⟩;have hD:=Hd (HB.o.trans (hb.mono HB.o.size));clear hb;clear x0 x1 x2 x3 x4 x5;obtain⟨x0,x1,x2,x3,x4,x5⟩:=HXC.o _ hD.o;go_wp2_with fail;go_ret
 exact⟨by rw[hA.o];rfl,HBZ.o.trans (hD.o.mono HBZ.o.size)⟩
theorem Yp (t:Z8) (n:Int) (ps:List Ty) (fs:Bx) (vs:Bt) (hp:∀p∈ps,Ae p) (hf:∀f∈fs,Ae f.2.2) (hv:∀v∈vs,∀b∈v.2,Ae b) (hE:fs.length=0) (hG:vs.length=0) (hC:ps.all Aj=true) (hB:n=0) (hF:ps.length=0):Ae (.mk 10 t n ps fs vs):=by
 refine Bb 10 t n ps fs vs hp hf hv fun K w A c A' c' A'' c'' w1 h=>?_;obtain⟨HXC,KAll,KPl,KNm,KOb,KBi,KOv,HREP,HCN,HBZ,HB,HS1,HX0,HW1,hlp,hlf,hlv⟩:=h;clear hp hf hv;have hA:Z9 (Aj (.mk 10 t n ps fs vs)=true):=Hd (by
  rw[Ay,show Ak 10=⟨true,false,false,false,0,0,true⟩ from rfl,hC];unfold Ao Bs;simp[hE,hG,hB,hF])
 obtain⟨f1,f2,f3,f4⟩:=F7 (m:=fs.length) (n:=vs.length) (by omega) (by omega);rw[hC]at KAll;have f5:(n == 0)=true:=by simpa using hB
 have p1:((ps.length:Int) == 0)=true:=beq_iff_eq.2 (by omega);have p2:(ps.length == 0)=true:=beq_iff_eq.2 (by omega);have p3:decide (ps.length=0)=true:=decide_eq_true (by omega);have p4:decide ((ps.length:Int)=0)=true:=decide_eq_true (by omega);clear hE hG hF hB hC;go_enter Tryz.func38,Tryz.ntmps38;go_upto_region 1 with fail
 rw[<-HW1.o];obtain⟨x0,x1,x2,x3,x4,x5⟩:=HXC.o _ HB.o;go_wp2_with fail;refine (KAll.o _ HB.o).mono ?_;rintro e w2 ⟨rfl,hb⟩;have hD:=Hd (HB.o.trans (hb.mono HB.o.size));clear hb;clear x0 x1 x2 x3 x4 x5;obtain⟨x0,x1,x2,x3,x4,x5⟩:=HXC.o _ hD.o;go_wp2_with fail;go_ret
 exact⟨by rw[hA.o];rfl,HBZ.o.trans (hD.o.mono HBZ.o.size)⟩
theorem Uu (k:Int) (hk:k=11\/k=18) (t:Z8) (n:Int) (ps:List Ty) (fs:Bx) (vs:Bt) (hp:∀p∈ps,Ae p) (hf:∀f∈fs,Ae f.2.2) (hv:∀v∈vs,∀b∈v.2,Ae b) (hF:fs.length=0) (hG:vs.length=0) (hC:ps.all Aj=true) (a0:UInt8) (l0:List UInt8) (hD:t.toList=a0 :: l0):Ae (.mk k t n ps fs vs):=by
 refine Bb k t n ps fs vs hp hf hv fun K w A c A' c' A'' c'' w1 h=>?_;obtain⟨HXC,KAll,KPl,KNm,KOb,KBi,KOv,HREP,HCN,HBZ,HB,HS1,HX0,HW1,hlp,hlf,hlv⟩:=h;clear hp hf hv;have hs:Ak k=⟨false,false,false,false,1,1,true⟩:=by rcases hk with rfl|rfl <;> rfl
 have hB:Z9 (Aj (.mk k t n ps fs vs)=false):=Hd (by
  rcases hk with rfl|rfl
  all_goals (
   rw[Ay,hs,hC];unfold Ao Bs;simp[hF,hG,hD]))
 obtain⟨f1,f2,f3,f4⟩:=F7 (m:=fs.length) (n:=vs.length) (by omega) (by omega);rw[hC]at KAll;have ep:(t.toList == [] && n == 0)=false:=by rw[hD];rfl
 rw[ep]at KPl;clear hF hG hC hD;clear hs;rcases hk with rfl|rfl
 all_goals (
  go_enter Tryz.func38,Tryz.ntmps38;go_upto_region 1 with fail
  rw[<-HW1.o];obtain⟨x0,x1,x2,x3,x4,x5⟩:=HXC.o _ HB.o;go_wp2_with fail;refine (KAll.o _ HB.o).mono ?_;rintro e w2 ⟨rfl,hb⟩;have hA:=Hd (HB.o.trans (hb.mono HB.o.size));clear hb;clear x0 x1 x2 x3 x4 x5;obtain⟨x0,x1,x2,x3,x4,x5⟩:=HXC.o _ hA.o;go_wp2_with fail;refine (KPl.o _).mono ?_;rintro e w3 ⟨rfl,hb⟩;have hE:=Hd (hA.o.trans (hb.mono hA.o.size));clear hb;clear x0 x1 x2 x3 x4 x5;obtain⟨x0,x1,x2,x3,x4,x5⟩:=HXC.o _ hE.o;go_wp2_with fail;go_ret
  exact⟨by rw[hB.o];rfl,HBZ.o.trans (hE.o.mono HBZ.o.size)⟩)
theorem Us (k:Int) (hk:k=11\/k=18) (t:Z8) (n:Int) (ps:List Ty) (fs:Bx) (vs:Bt) (hp:∀p∈ps,Ae p) (hf:∀f∈fs,Ae f.2.2) (hv:∀v∈vs,∀b∈v.2,Ae b) (hG:fs.length=0) (hH:vs.length=0) (hD:ps.all Aj=true) (hE:t.toList=[]) (hC:n≠0):Ae (.mk k t n ps fs vs):=by
 refine Bb k t n ps fs vs hp hf hv fun K w A c A' c' A'' c'' w1 h=>?_;obtain⟨HXC,KAll,KPl,KNm,KOb,KBi,KOv,HREP,HCN,HBZ,HB,HS1,HX0,HW1,hlp,hlf,hlv⟩:=h;clear hp hf hv;have hs:Ak k=⟨false,false,false,false,1,1,true⟩:=by rcases hk with rfl|rfl <;> rfl
 have hB:Z9 (Aj (.mk k t n ps fs vs)=false):=Hd (by
  rcases hk with rfl|rfl
  all_goals (
   rw[Ay,hs,hD];unfold Ao Bs;simp[hG,hH,hE,hC]))
 obtain⟨f1,f2,f3,f4⟩:=F7 (m:=fs.length) (n:=vs.length) (by omega) (by omega);rw[hD]at KAll;have ep:(t.toList == [] && n == 0)=false:=by rw[hE];simpa using hC
 rw[ep]at KPl;clear hG hH hC hD hE;clear hs;rcases hk with rfl|rfl
 all_goals (
  go_enter Tryz.func38,Tryz.ntmps38;go_upto_region 1 with fail
  rw[<-HW1.o];obtain⟨x0,x1,x2,x3,x4,x5⟩:=HXC.o _ HB.o;go_wp2_with fail;refine (KAll.o _ HB.o).mono ?_;rintro e w2 ⟨rfl,hb⟩;have hA:=Hd (HB.o.trans (hb.mono HB.o.size));clear hb;clear x0 x1 x2 x3 x4 x5;obtain⟨x0,x1,x2,x3,x4,x5⟩:=HXC.o _ hA.o;go_wp2_with fail;refine (KPl.o _).mono ?_;rintro e w3 ⟨rfl,hb⟩;have hF:=Hd (hA.o.trans (hb.mono hA.o.size));clear hb;clear x0 x1 x2 x3 x4 x5;obtain⟨x0,x1,x2,x3,x4,x5⟩:=HXC.o _ hF.o;go_wp2_with fail;go_ret
  exact⟨by rw[hB.o];rfl,HBZ.o.trans (hF.o.mono HBZ.o.size)⟩)
theorem Ut (k:Int) (hk:k=11\/k=18) (t:Z8) (n:Int) (ps:List Ty) (fs:Bx) (vs:Bt) (hp:∀p∈ps,Ae p) (hf:∀f∈fs,Ae f.2.2) (hv:∀v∈vs,∀b∈v.2,Ae b) (hG:fs.length=0) (hH:vs.length=0) (hD:ps.all Aj=true) (hE:t.toList=[]) (hC:n=0) (hI:ps.length≠1):Ae (.mk k t n ps fs vs):=by
 refine Bb k t n ps fs vs hp hf hv fun K w A c A' c' A'' c'' w1 h=>?_;obtain⟨HXC,KAll,KPl,KNm,KOb,KBi,KOv,HREP,HCN,HBZ,HB,HS1,HX0,HW1,hlp,hlf,hlv⟩:=h;clear hp hf hv;have hs:Ak k=⟨false,false,false,false,1,1,true⟩:=by rcases hk with rfl|rfl <;> rfl
 have hB:Z9 (Aj (.mk k t n ps fs vs)=false):=Hd (by
  rcases hk with rfl|rfl
  all_goals (
   rw[Ay,hs,hD];unfold Ao Bs;simp[hG,hH,hE,hC];omega))
 obtain⟨f1,f2,f3,f4⟩:=F7 (m:=fs.length) (n:=vs.length) (by omega) (by omega);rw[hD]at KAll;have ep:(t.toList == [] && n == 0)=true:=by rw[hE,hC];rfl
 rw[ep]at KPl;have p1:((ps.length:Int) == 1)=false:=beq_eq_false_iff_ne.2 (by omega);have p2:(ps.length == 1)=false:=beq_eq_false_iff_ne.2 (by omega);have p3:decide (ps.length=1)=false:=decide_eq_false (by omega);have p4:decide ((ps.length:Int)=1)=false:=decide_eq_false (by omega);clear hG hH hI hC hD hE;clear hs;rcases hk with rfl|rfl
 all_goals (
  go_enter Tryz.func38,Tryz.ntmps38;go_upto_region 1 with fail
  rw[<-HW1.o];obtain⟨x0,x1,x2,x3,x4,x5⟩:=HXC.o _ HB.o;go_wp2_with fail;refine (KAll.o _ HB.o).mono ?_;rintro e w2 ⟨rfl,hb⟩;have hA:=Hd (HB.o.trans (hb.mono HB.o.size));clear hb;clear x0 x1 x2 x3 x4 x5;obtain⟨x0,x1,x2,x3,x4,x5⟩:=HXC.o _ hA.o;go_wp2_with fail;refine (KPl.o _).mono ?_;rintro e w3 ⟨rfl,hb⟩;have hF:=Hd (hA.o.trans (hb.mono hA.o.size));clear hb;clear x0 x1 x2 x3 x4 x5;obtain⟨x0,x1,x2,x3,x4,x5⟩:=HXC.o _ hF.o;go_wp2_with fail;go_ret
  exact⟨by rw[hB.o];rfl,HBZ.o.trans (hF.o.mono HBZ.o.size)⟩)
theorem Uv (k:Int) (hk:k=11\/k=18) (t:Z8) (n:Int) (ps:List Ty) (fs:Bx) (vs:Bt) (hp:∀p∈ps,Ae p) (hf:∀f∈fs,Ae f.2.2) (hv:∀v∈vs,∀b∈v.2,Ae b) (hG:fs.length=0) (hI:vs.length=0) (hD:ps.all Aj=true) (hE:t.toList=[]) (hC:n=0) (hH:ps.length=1):Ae (.mk k t n ps fs vs):=by
 refine Bb k t n ps fs vs hp hf hv fun K w A c A' c' A'' c'' w1 h=>?_;obtain⟨HXC,KAll,KPl,KNm,KOb,KBi,KOv,HREP,HCN,HBZ,HB,HS1,HX0,HW1,hlp,hlf,hlv⟩:=h;clear hp hf hv;have hs:Ak k=⟨false,false,false,false,1,1,true⟩:=by rcases hk with rfl|rfl <;> rfl
 have hB:Z9 (Aj (.mk k t n ps fs vs)=true):=Hd (by
  rcases hk with rfl|rfl
  all_goals (
   rw[Ay,hs,hD];unfold Ao Bs;simp[hG,hI,hE,hC,hH]))
 obtain⟨f1,f2,f3,f4⟩:=F7 (m:=fs.length) (n:=vs.length) (by omega) (by omega);rw[hD]at KAll;have ep:(t.toList == [] && n == 0)=true:=by rw[hE,hC];rfl
 rw[ep]at KPl;have p1:((ps.length:Int) == 1)=true:=beq_iff_eq.2 (by omega);have p2:(ps.length == 1)=true:=beq_iff_eq.2 (by omega);have p3:decide (ps.length=1)=true:=decide_eq_true (by omega);have p4:decide ((ps.length:Int)=1)=true:=decide_eq_true (by omega);clear hG hI hH hC hD hE;clear hs;rcases hk with rfl|rfl
 all_goals (
  go_enter Tryz.func38,Tryz.ntmps38;go_upto_region 1 with fail
  rw[<-HW1.o];obtain⟨x0,x1,x2,x3,x4,x5⟩:=HXC.o _ HB.o;go_wp2_with fail;refine (KAll.o _ HB.o).mono ?_;rintro e w2 ⟨rfl,hb⟩;have hA:=Hd (HB.o.trans (hb.mono HB.o.size));clear hb;clear x0 x1 x2 x3 x4 x5;obtain⟨x0,x1,x2,x3,x4,x5⟩:=HXC.o _ hA.o;go_wp2_with fail;refine (KPl.o _).mono ?_;rintro e w3 ⟨rfl,hb⟩;have hF:=Hd (hA.o.trans (hb.mono hA.o.size));clear hb;clear x0 x1 x2 x3 x4 x5;obtain⟨x0,x1,x2,x3,x4,x5⟩:=HXC.o _ hF.o;go_wp2_with fail;go_ret
  exact⟨by rw[hB.o];rfl,HBZ.o.trans (hF.o.mono HBZ.o.size)⟩)
theorem Yr (t:Z8) (n:Int) (ps:List Ty) (fs:Bx) (vs:Bt) (hp:∀p∈ps,Ae p) (hf:∀f∈fs,Ae f.2.2) (hv:∀v∈vs,∀b∈v.2,Ae b) (hF:fs.length=0) (hG:vs.length=0) (hC:ps.all Aj=true) (a0:UInt8) (l0:List UInt8) (hD:t.toList=a0 :: l0):Ae (.mk 12 t n ps fs vs):=by
 refine Bb 12 t n ps fs vs hp hf hv fun K w A c A' c' A'' c'' w1 h=>?_;obtain⟨HXC,KAll,KPl,KNm,KOb,KBi,KOv,HREP,HCN,HBZ,HB,HS1,HX0,HW1,hlp,hlf,hlv⟩:=h;clear hp hf hv;have hB:Z9 (Aj (.mk 12 t n ps fs vs)=false):=Hd (by
  rw[Ay,show Ak 12=⟨false,false,false,false,0,-1,true⟩ from rfl,hC];unfold Ao Bs;simp[hF,hG,hD])
 obtain⟨f1,f2,f3,f4⟩:=F7 (m:=fs.length) (n:=vs.length) (by omega) (by omega);rw[hC]at KAll;have ep:(t.toList == [] && n == 0)=false:=by rw[hD];rfl
 rw[ep]at KPl;clear hF hG hC hD;go_enter Tryz.func38,Tryz.ntmps38;go_upto_region 1 with fail
 rw[<-HW1.o];obtain⟨x0,x1,x2,x3,x4,x5⟩:=HXC.o _ HB.o;go_wp2_with fail;refine (KAll.o _ HB.o).mono ?_;rintro e w2 ⟨rfl,hb⟩;have hA:=Hd (HB.o.trans (hb.mono HB.o.size));clear hb;clear x0 x1 x2 x3 x4 x5;obtain⟨x0,x1,x2,x3,x4,x5⟩:=HXC.o _ hA.o;go_wp2_with fail;refine (KPl.o _).mono ?_;rintro e w3 ⟨rfl,hb⟩;have hE:=Hd (hA.o.trans (hb.mono hA.o.size));clear hb;clear x0 x1 x2 x3 x4 x5;obtain⟨x0,x1,x2,x3,x4,x5⟩:=HXC.o _ hE.o;go_wp2_with fail;go_ret
 exact⟨by rw[hB.o];rfl,HBZ.o.trans (hE.o.mono HBZ.o.size)⟩
theorem Yq (t:Z8) (n:Int) (ps:List Ty) (fs:Bx) (vs:Bt) (hp:∀p∈ps,Ae p) (hf:∀f∈fs,Ae f.2.2) (hv:∀v∈vs,∀b∈v.2,Ae b) (hG:fs.length=0) (hH:vs.length=0) (hD:ps.all Aj=true) (hE:t.toList=[]) (hC:n≠0):Ae (.mk 12 t n ps fs vs):=by
 refine Bb 12 t n ps fs vs hp hf hv fun K w A c A' c' A'' c'' w1 h=>?_;obtain⟨HXC,KAll,KPl,KNm,KOb,KBi,KOv,HREP,HCN,HBZ,HB,HS1,HX0,HW1,hlp,hlf,hlv⟩:=h;clear hp hf hv;have hB:Z9 (Aj (.mk 12 t n ps fs vs)=false):=Hd (by
  rw[Ay,show Ak 12=⟨false,false,false,false,0,-1,true⟩ from rfl,hD];unfold Ao Bs;simp[hG,hH,hE,hC])
 obtain⟨f1,f2,f3,f4⟩:=F7 (m:=fs.length) (n:=vs.length) (by omega) (by omega);rw[hD]at KAll;have ep:(t.toList == [] && n == 0)=false:=by rw[hE];simpa using hC
 rw[ep]at KPl;clear hG hH hC hD hE;go_enter Tryz.func38,Tryz.ntmps38;go_upto_region 1 with fail
 rw[<-HW1.o];obtain⟨x0,x1,x2,x3,x4,x5⟩:=HXC.o _ HB.o;go_wp2_with fail;refine (KAll.o _ HB.o).mono ?_;rintro e w2 ⟨rfl,hb⟩;have hA:=Hd (HB.o.trans (hb.mono HB.o.size));clear hb;clear x0 x1 x2 x3 x4 x5;obtain⟨x0,x1,x2,x3,x4,x5⟩:=HXC.o _ hA.o;go_wp2_with fail;refine (KPl.o _).mono ?_;rintro e w3 ⟨rfl,hb⟩;have hF:=Hd (hA.o.trans (hb.mono hA.o.size));clear hb;clear x0 x1 x2 x3 x4 x5;obtain⟨x0,x1,x2,x3,x4,x5⟩:=HXC.o _ hF.o;go_wp2_with fail;go_ret
 exact⟨by rw[hB.o];rfl,HBZ.o.trans (hF.o.mono HBZ.o.size)⟩
theorem Ys (t:Z8) (n:Int) (ps:List Ty) (fs:Bx) (vs:Bt) (hp:∀p∈ps,Ae p) (hf:∀f∈fs,Ae f.2.2) (hv:∀v∈vs,∀b∈v.2,Ae b) (hG:fs.length=0) (hH:vs.length=0) (hD:ps.all Aj=true) (hE:t.toList=[]) (hC:n=0):Ae (.mk 12 t n ps fs vs):=by
 refine Bb 12 t n ps fs vs hp hf hv fun K w A c A' c' A'' c'' w1 h=>?_;obtain⟨HXC,KAll,KPl,KNm,KOb,KBi,KOv,HREP,HCN,HBZ,HB,HS1,HX0,HW1,hlp,hlf,hlv⟩:=h;clear hp hf hv;have hB:Z9 (Aj (.mk 12 t n ps fs vs)=true):=Hd (by
  rw[Ay,show Ak 12=⟨false,false,false,false,0,-1,true⟩ from rfl,hD];unfold Ao Bs;simp[hG,hH,hE,hC])
 obtain⟨f1,f2,f3,f4⟩:=F7 (m:=fs.length) (n:=vs.length) (by omega) (by omega);rw[hD]at KAll;have ep:(t.toList == [] && n == 0)=true:=by rw[hE,hC];rfl
 rw[ep]at KPl;clear hG hH hC hD hE;go_enter Tryz.func38,Tryz.ntmps38;go_upto_region 1 with fail
 rw[<-HW1.o];obtain⟨x0,x1,x2,x3,x4,x5⟩:=HXC.o _ HB.o;go_wp2_with fail;refine (KAll.o _ HB.o).mono ?_;rintro e w2 ⟨rfl,hb⟩;have hA:=Hd (HB.o.trans (hb.mono HB.o.size));clear hb;clear x0 x1 x2 x3 x4 x5;obtain⟨x0,x1,x2,x3,x4,x5⟩:=HXC.o _ hA.o;go_wp2_with fail;refine (KPl.o _).mono ?_;rintro e w3 ⟨rfl,hb⟩;have hF:=Hd (hA.o.trans (hb.mono hA.o.size));clear hb;clear x0 x1 x2 x3 x4 x5;obtain⟨x0,x1,x2,x3,x4,x5⟩:=HXC.o _ hF.o;go_wp2_with fail;go_ret
 exact⟨by rw[hB.o];rfl,HBZ.o.trans (hF.o.mono HBZ.o.size)⟩
theorem Yv (t:Z8) (n:Int) (ps:List Ty) (fs:Bx) (vs:Bt) (hp:∀p∈ps,Ae p) (hf:∀f∈fs,Ae f.2.2) (hv:∀v∈vs,∀b∈v.2,Ae b) (hF:fs.length=0) (hC:ps.all Aj=true) (a0:UInt8) (l0:List UInt8) (hD:t.toList=a0 :: l0):Ae (.mk 13 t n ps fs vs):=by
 refine Bb 13 t n ps fs vs hp hf hv fun K w A c A' c' A'' c'' w1 h=>?_;obtain⟨HXC,KAll,KPl,KNm,KOb,KBi,KOv,HREP,HCN,HBZ,HB,HS1,HX0,HW1,hlp,hlf,hlv⟩:=h;clear hp hf hv;have hB:Z9 (Aj (.mk 13 t n ps fs vs)=false):=Hd (by
  rw[Ay,show Ak 13=⟨false,false,false,true,1,-1,true⟩ from rfl,hC];unfold Ao Bs;simp[hF,hD])
 have f1:decide ((0:Int)<(fs.length:Int))=false:=decide_eq_false (by omega);have f2:decide (0<fs.length)=false:=decide_eq_false (by omega);rw[hC]at KAll;have ep:(t.toList == [] && n == 0)=false:=by rw[hD];rfl
 rw[ep]at KPl;clear hF hC hD;go_enter Tryz.func38,Tryz.ntmps38;go_upto_region 1 with fail
 rw[<-HW1.o];obtain⟨x0,x1,x2,x3,x4,x5⟩:=HXC.o _ HB.o;go_wp2_with fail;refine (KAll.o _ HB.o).mono ?_;rintro e w2 ⟨rfl,hb⟩;have hA:=Hd (HB.o.trans (hb.mono HB.o.size));clear hb;clear x0 x1 x2 x3 x4 x5;obtain⟨x0,x1,x2,x3,x4,x5⟩:=HXC.o _ hA.o;go_wp2_with fail;refine (KPl.o _).mono ?_;rintro e w3 ⟨rfl,hb⟩;have hE:=Hd (hA.o.trans (hb.mono hA.o.size));clear hb;clear x0 x1 x2 x3 x4 x5;obtain⟨x0,x1,x2,x3,x4,x5⟩:=HXC.o _ hE.o;go_wp2_with fail;go_ret
 exact⟨by rw[hB.o];rfl,HBZ.o.trans (hE.o.mono HBZ.o.size)⟩
theorem Yt (t:Z8) (n:Int) (ps:List Ty) (fs:Bx) (vs:Bt) (hp:∀p∈ps,Ae p) (hf:∀f∈fs,Ae f.2.2) (hv:∀v∈vs,∀b∈v.2,Ae b) (hG:fs.length=0) (hD:ps.all Aj=true) (hE:t.toList=[]) (hC:n≠0):Ae (.mk 13 t n ps fs vs):=by
 refine Bb 13 t n ps fs vs hp hf hv fun K w A c A' c' A'' c'' w1 h=>?_;obtain⟨HXC,KAll,KPl,KNm,KOb,KBi,KOv,HREP,HCN,HBZ,HB,HS1,HX0,HW1,hlp,hlf,hlv⟩:=h;clear hp hf hv;have hB:Z9 (Aj (.mk 13 t n ps fs vs)=false):=Hd (by
  rw[Ay,show Ak 13=⟨false,false,false,true,1,-1,true⟩ from rfl,hD];unfold Ao Bs;simp[hG,hE,hC])
 have f1:decide ((0:Int)<(fs.length:Int))=false:=decide_eq_false (by omega);have f2:decide (0<fs.length)=false:=decide_eq_false (by omega);rw[hD]at KAll;have ep:(t.toList == [] && n == 0)=false:=by rw[hE];simpa using hC
 rw[ep]at KPl;clear hG hC hD hE;go_enter Tryz.func38,Tryz.ntmps38;go_upto_region 1 with fail
 rw[<-HW1.o];obtain⟨x0,x1,x2,x3,x4,x5⟩:=HXC.o _ HB.o;go_wp2_with fail;refine (KAll.o _ HB.o).mono ?_;rintro e w2 ⟨rfl,hb⟩;have hA:=Hd (HB.o.trans (hb.mono HB.o.size));clear hb;clear x0 x1 x2 x3 x4 x5;obtain⟨x0,x1,x2,x3,x4,x5⟩:=HXC.o _ hA.o;go_wp2_with fail;refine (KPl.o _).mono ?_;rintro e w3 ⟨rfl,hb⟩;have hF:=Hd (hA.o.trans (hb.mono hA.o.size));clear hb;clear x0 x1 x2 x3 x4 x5;obtain⟨x0,x1,x2,x3,x4,x5⟩:=HXC.o _ hF.o;go_wp2_with fail;go_ret
 exact⟨by rw[hB.o];rfl,HBZ.o.trans (hF.o.mono HBZ.o.size)⟩
theorem Yu (t:Z8) (n:Int) (ps:List Ty) (fs:Bx) (vs:Bt) (hp:∀p∈ps,Ae p) (hf:∀f∈fs,Ae f.2.2) (hv:∀v∈vs,∀b∈v.2,Ae b) (hG:fs.length=0) (hD:ps.all Aj=true) (hE:t.toList=[]) (hC:n=0) (hH:¬ 1<=ps.length):Ae (.mk 13 t n ps fs vs):=by
 refine Bb 13 t n ps fs vs hp hf hv fun K w A c A' c' A'' c'' w1 h=>?_;obtain⟨HXC,KAll,KPl,KNm,KOb,KBi,KOv,HREP,HCN,HBZ,HB,HS1,HX0,HW1,hlp,hlf,hlv⟩:=h;clear hp hf hv;have hB:Z9 (Aj (.mk 13 t n ps fs vs)=false):=Hd (by
  rw[Ay,show Ak 13=⟨false,false,false,true,1,-1,true⟩ from rfl,hD];unfold Ao Bs;simp[hG,hE,hC];omega)
 have f1:decide ((0:Int)<(fs.length:Int))=false:=decide_eq_false (by omega);have f2:decide (0<fs.length)=false:=decide_eq_false (by omega);rw[hD]at KAll;have ep:(t.toList == [] && n == 0)=true:=by rw[hE,hC];rfl
 rw[ep]at KPl;have p1:decide ((1:Int)<=(ps.length:Int))=false:=decide_eq_false (by omega);have p2:decide (1<=ps.length)=false:=decide_eq_false (by omega);clear hG hH hC hD hE;go_enter Tryz.func38,Tryz.ntmps38;go_upto_region 1 with fail
 rw[<-HW1.o];obtain⟨x0,x1,x2,x3,x4,x5⟩:=HXC.o _ HB.o;go_wp2_with fail;refine (KAll.o _ HB.o).mono ?_;rintro e w2 ⟨rfl,hb⟩;have hA:=Hd (HB.o.trans (hb.mono HB.o.size));clear hb;clear x0 x1 x2 x3 x4 x5;obtain⟨x0,x1,x2,x3,x4,x5⟩:=HXC.o _ hA.o;go_wp2_with fail;refine (KPl.o _).mono ?_;rintro e w3 ⟨rfl,hb⟩;have hF:=Hd (hA.o.trans (hb.mono hA.o.size));clear hb;clear x0 x1 x2 x3 x4 x5;obtain⟨x0,x1,x2,x3,x4,x5⟩:=HXC.o _ hF.o;go_wp2_with fail;go_ret
 exact⟨by rw[hB.o];rfl,HBZ.o.trans (hF.o.mono HBZ.o.size)⟩
theorem Wf (t:Z8) (n:Int) (ps:List Ty) (fs:Bx) (vs:Bt) (hp:∀p∈ps,Ae p) (hf:∀f∈fs,Ae f.2.2) (hv:∀v∈vs,∀b∈v.2,Ae b) (hI:fs.length=0) (hF:ps.all Aj=true) (hG:t.toList=[]) (hE:n=0) (hJ:1<=ps.length) (hD:Eo (Dj vs Aj)=false):Ae (.mk 13 t n ps fs vs):=by
 refine Bb 13 t n ps fs vs hp hf hv fun K w A c A' c' A'' c'' w1 h=>?_;obtain⟨HXC,KAll,KPl,KNm,KOb,KBi,KOv,HREP,HCN,HBZ,HB,HS1,HX0,HW1,hlp,hlf,hlv⟩:=h;clear hp hf hv;have hC:Z9 (Aj (.mk 13 t n ps fs vs)=false):=Hd (by
  rw[Ay,show Ak 13=⟨false,false,false,true,1,-1,true⟩ from rfl,hF];unfold Ao Bs;simp[hI,hG,hE,hD])
 have f1:decide ((0:Int)<(fs.length:Int))=false:=decide_eq_false (by omega);have f2:decide (0<fs.length)=false:=decide_eq_false (by omega);rw[hF]at KAll;have ep:(t.toList == [] && n == 0)=true:=by rw[hG,hE];rfl
 rw[ep]at KPl;have p1:decide ((1:Int)<=(ps.length:Int))=true:=decide_eq_true (by omega);have p2:decide (1<=ps.length)=true:=decide_eq_true (by omega);rw[hD]at KBi;clear hI hJ hE hF hD hG;go_enter Tryz.func38,Tryz.ntmps38;go_upto_region 1 with fail
 rw[<-HW1.o];obtain⟨x0,x1,x2,x3,x4,x5⟩:=HXC.o _ HB.o;go_wp2_with fail;refine (KAll.o _ HB.o).mono ?_;rintro e w2 ⟨rfl,hb⟩;have hB:=Hd (HB.o.trans (hb.mono HB.o.size));clear hb;clear x0 x1 x2 x3 x4 x5;obtain⟨x0,x1,x2,x3,x4,x5⟩:=HXC.o _ hB.o;go_wp2_with fail;refine (KPl.o _).mono ?_;rintro e w3 ⟨rfl,hb⟩;have hA:=Hd (hB.o.trans (hb.mono hB.o.size));clear hb;clear x0 x1 x2 x3 x4 x5;obtain⟨x0,x1,x2,x3,x4,x5⟩:=HXC.o _ hA.o;go_wp2_with fail;refine (KBi.o _ hA.o).mono ?_;rintro e w4 ⟨rfl,hb⟩;have hH:=Hd (hA.o.trans (hb.mono hA.o.size));clear hb;clear x0 x1 x2 x3 x4 x5;obtain⟨x0,x1,x2,x3,x4,x5⟩:=HXC.o _ hH.o;go_wp2_with fail;go_ret
 exact⟨by rw[hC.o];rfl,HBZ.o.trans (hH.o.mono HBZ.o.size)⟩
theorem Wg (t:Z8) (n:Int) (ps:List Ty) (fs:Bx) (vs:Bt) (hp:∀p∈ps,Ae p) (hf:∀f∈fs,Ae f.2.2) (hv:∀v∈vs,∀b∈v.2,Ae b) (hI:fs.length=0) (hF:ps.all Aj=true) (hG:t.toList=[]) (hE:n=0) (hJ:1<=ps.length) (hD:Eo (Dj vs Aj)=true):Ae (.mk 13 t n ps fs vs):=by
 refine Bb 13 t n ps fs vs hp hf hv fun K w A c A' c' A'' c'' w1 h=>?_;obtain⟨HXC,KAll,KPl,KNm,KOb,KBi,KOv,HREP,HCN,HBZ,HB,HS1,HX0,HW1,hlp,hlf,hlv⟩:=h;clear hp hf hv;have hC:Z9 (Aj (.mk 13 t n ps fs vs)=true):=Hd (by
  rw[Ay,show Ak 13=⟨false,false,false,true,1,-1,true⟩ from rfl,hF];unfold Ao Bs;simp[hI,hG,hE,hD];omega)
 have f1:decide ((0:Int)<(fs.length:Int))=false:=decide_eq_false (by omega);have f2:decide (0<fs.length)=false:=decide_eq_false (by omega);rw[hF]at KAll;have ep:(t.toList == [] && n == 0)=true:=by rw[hG,hE];rfl
 rw[ep]at KPl;have p1:decide ((1:Int)<=(ps.length:Int))=true:=decide_eq_true (by omega);have p2:decide (1<=ps.length)=true:=decide_eq_true (by omega);rw[hD]at KBi;clear hI hJ hE hF hD hG;go_enter Tryz.func38,Tryz.ntmps38;go_upto_region 1 with fail
 rw[<-HW1.o];obtain⟨x0,x1,x2,x3,x4,x5⟩:=HXC.o _ HB.o;go_wp2_with fail;refine (KAll.o _ HB.o).mono ?_;rintro e w2 ⟨rfl,hb⟩;have hB:=Hd (HB.o.trans (hb.mono HB.o.size));clear hb;clear x0 x1 x2 x3 x4 x5;obtain⟨x0,x1,x2,x3,x4,x5⟩:=HXC.o _ hB.o;go_wp2_with fail;refine (KPl.o _).mono ?_;rintro e w3 ⟨rfl,hb⟩;have hA:=Hd (hB.o.trans (hb.mono hB.o.size));clear hb;clear x0 x1 x2 x3 x4 x5;obtain⟨x0,x1,x2,x3,x4,x5⟩:=HXC.o _ hA.o;go_wp2_with fail;refine (KBi.o _ hA.o).mono ?_;rintro e w4 ⟨rfl,hb⟩;have hH:=Hd (hA.o.trans (hb.mono hA.o.size));clear hb;clear x0 x1 x2 x3 x4 x5;obtain⟨x0,x1,x2,x3,x4,x5⟩:=HXC.o _ hH.o;go_wp2_with fail;go_ret
 exact⟨by rw[hC.o];rfl,HBZ.o.trans (hH.o.mono HBZ.o.size)⟩
