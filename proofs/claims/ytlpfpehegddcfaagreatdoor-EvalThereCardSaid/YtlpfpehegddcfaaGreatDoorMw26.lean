import Derived.Test.YtlpfpehegddcfaaGreatDoorMw24
namespace Go.Proofs.YtlpfpehegddcfaaGreatDoor
set_option maxRecDepth 100000
set_option maxHeartbeats 64000000
open Go.RowKit
theorem Jdw (k:Int) (hk:k=1\/k=2\/k=3\/k=4\/k=5\/k=6\/k=7\/k=8) (t:Z8) (n:Int) (ps:List Ty) (fs:Bv) (vs:Bw) (hp:∀p∈ps,Aj p) (hf:∀f∈fs,Aj f.2.2) (hv:∀v∈vs,∀b∈v.2,Aj b) (hE:fs.length=0) (hF:vs.length=0) (hB:ps.all Ai=true) (a0:UInt8) (l0:List UInt8) (hC:t.toList=a0 :: l0):Aj (.mk k t n ps fs vs):=by
 refine Bc k t n ps fs vs hp hf hv fun K w A c A' c' A'' c'' w1 h=>?_;obtain⟨HXC,KAll,KPl,KNm,KOb,KBi,KOv,HREP,HCN,HBZ,HB,HS1,HX0,HW1,hlp,hlf,hlv⟩:=h;clear hp hf hv;have hs:Ak k=⟨false,false,false,false,0,0,true⟩:=by rcases hk with rfl|rfl|rfl|rfl|rfl|rfl|rfl|rfl <;> rfl
 have hA:Z9 (Ai (.mk k t n ps fs vs)=false):=Hd (by
  rcases hk with rfl|rfl|rfl|rfl|rfl|rfl|rfl|rfl
  all_goals (
   rw[Aw,hs,hB];unfold Ar Bq;simp[hE,hF,hC]))
 obtain⟨f1,f2,f3,f4⟩:=Gl (m:=fs.length) (n:=vs.length) (by omega) (by omega);rw[hB]at KAll;have ep:(t.toList == [] && n == 0)=false:=by rw[hC];rfl
 rw[ep]at KPl;clear hE hF hB hC;clear hs;rcases hk with rfl|rfl|rfl|rfl|rfl|rfl|rfl|rfl
 all_goals (
  go_enter Tryz.func38,Tryz.ntmps38;go_upto_region 1 with fail
  rw[<-HW1.o];obtain⟨x0,x1,x2,x3,x4,x5⟩:=HXC.o _ HB.o;go_wp2_with fail;refine (KAll.o _ HB.o).mono ?_;rintro e w2 ⟨rfl,hb⟩;have HB1:=Hd (HB.o.trans (hb.mono HB.o.size));clear hb;clear x0 x1 x2 x3 x4 x5;obtain⟨x0,x1,x2,x3,x4,x5⟩:=HXC.o _ HB1.o;go_wp2_with fail;refine (KPl.o _).mono ?_;rintro e w3 ⟨rfl,hb⟩;have hD:=Hd (HB1.o.trans (hb.mono HB1.o.size));clear hb;clear x0 x1 x2 x3 x4 x5;obtain⟨x0,x1,x2,x3,x4,x5⟩:=HXC.o _ hD.o;go_wp2_with fail;go_ret
  exact⟨by rw[hA.o];rfl,HBZ.o.trans (hD.o.mono HBZ.o.size)⟩)
theorem Jdu (k:Int) (hk:k=1\/k=2\/k=3\/k=4\/k=5\/k=6\/k=7\/k=8) (t:Z8) (n:Int) (ps:List Ty) (fs:Bv) (vs:Bw) (hp:∀p∈ps,Aj p) (hf:∀f∈fs,Aj f.2.2) (hv:∀v∈vs,∀b∈v.2,Aj b) (hF:fs.length=0) (hG:vs.length=0) (hC:ps.all Ai=true) (hD:t.toList=[]) (hB:n≠0):Aj (.mk k t n ps fs vs):=by
 refine Bc k t n ps fs vs hp hf hv fun K w A c A' c' A'' c'' w1 h=>?_;obtain⟨HXC,KAll,KPl,KNm,KOb,KBi,KOv,HREP,HCN,HBZ,HB,HS1,HX0,HW1,hlp,hlf,hlv⟩:=h;clear hp hf hv;have hs:Ak k=⟨false,false,false,false,0,0,true⟩:=by rcases hk with rfl|rfl|rfl|rfl|rfl|rfl|rfl|rfl <;> rfl
 have hA:Z9 (Ai (.mk k t n ps fs vs)=false):=Hd (by
  rcases hk with rfl|rfl|rfl|rfl|rfl|rfl|rfl|rfl
  all_goals (
   rw[Aw,hs,hC];unfold Ar Bq;simp[hF,hG,hD,hB]))
 obtain⟨f1,f2,f3,f4⟩:=Gl (m:=fs.length) (n:=vs.length) (by omega) (by omega);rw[hC]at KAll;have ep:(t.toList == [] && n == 0)=false:=by rw[hD];simpa using hB
 rw[ep]at KPl;clear hF hG hB hC hD;clear hs;rcases hk with rfl|rfl|rfl|rfl|rfl|rfl|rfl|rfl
 all_goals (
  go_enter Tryz.func38,Tryz.ntmps38;go_upto_region 1 with fail
  rw[<-HW1.o];obtain⟨x0,x1,x2,x3,x4,x5⟩:=HXC.o _ HB.o;go_wp2_with fail;refine (KAll.o _ HB.o).mono ?_;rintro e w2 ⟨rfl,hb⟩;have HB1:=Hd (HB.o.trans (hb.mono HB.o.size));clear hb;clear x0 x1 x2 x3 x4 x5;obtain⟨x0,x1,x2,x3,x4,x5⟩:=HXC.o _ HB1.o;go_wp2_with fail;refine (KPl.o _).mono ?_;rintro e w3 ⟨rfl,hb⟩;have hE:=Hd (HB1.o.trans (hb.mono HB1.o.size));clear hb;clear x0 x1 x2 x3 x4 x5;obtain⟨x0,x1,x2,x3,x4,x5⟩:=HXC.o _ hE.o;go_wp2_with fail;go_ret
  exact⟨by rw[hA.o];rfl,HBZ.o.trans (hE.o.mono HBZ.o.size)⟩)
theorem Jdv (k:Int) (hk:k=1\/k=2\/k=3\/k=4\/k=5\/k=6\/k=7\/k=8) (t:Z8) (n:Int) (ps:List Ty) (fs:Bv) (vs:Bw) (hp:∀p∈ps,Aj p) (hf:∀f∈fs,Aj f.2.2) (hv:∀v∈vs,∀b∈v.2,Aj b) (hF:fs.length=0) (hH:vs.length=0) (hC:ps.all Ai=true) (hD:t.toList=[]) (hB:n=0) (hG:ps.length≠0):Aj (.mk k t n ps fs vs):=by
 refine Bc k t n ps fs vs hp hf hv fun K w A c A' c' A'' c'' w1 h=>?_;obtain⟨HXC,KAll,KPl,KNm,KOb,KBi,KOv,HREP,HCN,HBZ,HB,HS1,HX0,HW1,hlp,hlf,hlv⟩:=h;clear hp hf hv;have hs:Ak k=⟨false,false,false,false,0,0,true⟩:=by rcases hk with rfl|rfl|rfl|rfl|rfl|rfl|rfl|rfl <;> rfl
 have hA:Z9 (Ai (.mk k t n ps fs vs)=false):=Hd (by
  rcases hk with rfl|rfl|rfl|rfl|rfl|rfl|rfl|rfl
  all_goals (
   rw[Aw,hs,hC];unfold Ar Bq;simp[hF,hH,hD,hB];exact fun h=>hG (by rw[h];rfl)))
 obtain⟨f1,f2,f3,f4⟩:=Gl (m:=fs.length) (n:=vs.length) (by omega) (by omega);rw[hC]at KAll;have ep:(t.toList == [] && n == 0)=true:=by rw[hD,hB];rfl
 rw[ep]at KPl;have p1:((ps.length:Int) == 0)=false:=beq_eq_false_iff_ne.2 (by omega);have p2:(ps.length == 0)=false:=beq_eq_false_iff_ne.2 (by omega);have p3:decide (ps.length=0)=false:=decide_eq_false (by omega);have p4:decide ((ps.length:Int)=0)=false:=decide_eq_false (by omega);clear hF hH hG hB hC hD;clear hs;rcases hk with rfl|rfl|rfl|rfl|rfl|rfl|rfl|rfl
 all_goals (
  go_enter Tryz.func38,Tryz.ntmps38;go_upto_region 1 with fail
  rw[<-HW1.o];obtain⟨x0,x1,x2,x3,x4,x5⟩:=HXC.o _ HB.o;go_wp2_with fail;refine (KAll.o _ HB.o).mono ?_;rintro e w2 ⟨rfl,hb⟩;have HB1:=Hd (HB.o.trans (hb.mono HB.o.size));clear hb;clear x0 x1 x2 x3 x4 x5;obtain⟨x0,x1,x2,x3,x4,x5⟩:=HXC.o _ HB1.o;go_wp2_with fail;refine (KPl.o _).mono ?_;rintro e w3 ⟨rfl,hb⟩;have hE:=Hd (HB1.o.trans (hb.mono HB1.o.size));clear hb;clear x0 x1 x2 x3 x4 x5;obtain⟨x0,x1,x2,x3,x4,x5⟩:=HXC.o _ hE.o;go_wp2_with fail;go_ret
  exact⟨by rw[hA.o];rfl,HBZ.o.trans (hE.o.mono HBZ.o.size)⟩)
theorem Jdx (k:Int) (hk:k=1\/k=2\/k=3\/k=4\/k=5\/k=6\/k=7\/k=8) (t:Z8) (n:Int) (ps:List Ty) (fs:Bv) (vs:Bw) (hp:∀p∈ps,Aj p) (hf:∀f∈fs,Aj f.2.2) (hv:∀v∈vs,∀b∈v.2,Aj b) (hF:fs.length=0) (hH:vs.length=0) (hC:ps.all Ai=true) (hD:t.toList=[]) (hB:n=0) (hG:ps.length=0):Aj (.mk k t n ps fs vs):=by
 refine Bc k t n ps fs vs hp hf hv fun K w A c A' c' A'' c'' w1 h=>?_;obtain⟨HXC,KAll,KPl,KNm,KOb,KBi,KOv,HREP,HCN,HBZ,HB,HS1,HX0,HW1,hlp,hlf,hlv⟩:=h;clear hp hf hv;have hs:Ak k=⟨false,false,false,false,0,0,true⟩:=by rcases hk with rfl|rfl|rfl|rfl|rfl|rfl|rfl|rfl <;> rfl
 have hA:Z9 (Ai (.mk k t n ps fs vs)=true):=Hd (by
  rcases hk with rfl|rfl|rfl|rfl|rfl|rfl|rfl|rfl
  all_goals (
   rw[Aw,hs,hC];unfold Ar Bq;simp[hF,hH,hD,hB,hG]))
 obtain⟨f1,f2,f3,f4⟩:=Gl (m:=fs.length) (n:=vs.length) (by omega) (by omega);rw[hC]at KAll;have ep:(t.toList == [] && n == 0)=true:=by rw[hD,hB];rfl
 rw[ep]at KPl;have p1:((ps.length:Int) == 0)=true:=beq_iff_eq.2 (by omega);have p2:(ps.length == 0)=true:=beq_iff_eq.2 (by omega);have p3:decide (ps.length=0)=true:=decide_eq_true (by omega);have p4:decide ((ps.length:Int)=0)=true:=decide_eq_true (by omega);clear hF hH hG hB hC hD;clear hs;rcases hk with rfl|rfl|rfl|rfl|rfl|rfl|rfl|rfl
 all_goals (
  go_enter Tryz.func38,Tryz.ntmps38;go_upto_region 1 with fail
  rw[<-HW1.o];obtain⟨x0,x1,x2,x3,x4,x5⟩:=HXC.o _ HB.o;go_wp2_with fail;refine (KAll.o _ HB.o).mono ?_;rintro e w2 ⟨rfl,hb⟩;have HB1:=Hd (HB.o.trans (hb.mono HB.o.size));clear hb;clear x0 x1 x2 x3 x4 x5;obtain⟨x0,x1,x2,x3,x4,x5⟩:=HXC.o _ HB1.o;go_wp2_with fail;refine (KPl.o _).mono ?_;rintro e w3 ⟨rfl,hb⟩;have hE:=Hd (HB1.o.trans (hb.mono HB1.o.size));clear hb;clear x0 x1 x2 x3 x4 x5;obtain⟨x0,x1,x2,x3,x4,x5⟩:=HXC.o _ hE.o;go_wp2_with fail;go_ret
  exact⟨by rw[hA.o];rfl,HBZ.o.trans (hE.o.mono HBZ.o.size)⟩)
theorem Jds (t:Z8) (n:Int) (ps:List Ty) (fs:Bv) (vs:Bw) (hp:∀p∈ps,Aj p) (hf:∀f∈fs,Aj f.2.2) (hv:∀v∈vs,∀b∈v.2,Aj b) (hC:fs.length=0) (hD:vs.length=0) (hB:ps.all Ai=true) (a0:UInt8) (l0:List UInt8) (hE:t.toList=a0 :: l0):Aj (.mk 9 t n ps fs vs):=by
 refine Bc 9 t n ps fs vs hp hf hv fun K w A c A' c' A'' c'' w1 h=>?_;obtain⟨HXC,KAll,KPl,KNm,KOb,KBi,KOv,HREP,HCN,HBZ,HB,HS1,HX0,HW1,hlp,hlf,hlv⟩:=h;clear hp hf hv;have hA:Z9 (Ai (.mk 9 t n ps fs vs)=false):=Hd (by
  rw[Aw,show Ak 9=⟨false,true,false,false,0,0,true⟩ from rfl,hB];unfold Ar Bq;simp[hC,hD,hE])
 obtain⟨f1,f2,f3,f4⟩:=Gl (m:=fs.length) (n:=vs.length) (by omega) (by omega);rw[hB]at KAll;clear hC hD hB;go_enter Tryz.func38,Tryz.ntmps38;go_upto_region 1 with fail
 rw[<-HW1.o];obtain⟨x0,x1,x2,x3,x4,x5⟩:=HXC.o _ HB.o;go_wp2_with fail;refine (KAll.o _ HB.o).mono ?_;rintro e w2 ⟨rfl,hb⟩;have HB1:=Hd (HB.o.trans (hb.mono HB.o.size));clear hb;clear x0 x1 x2 x3 x4 x5;obtain⟨x0,x1,x2,x3,x4,x5⟩:=HXC.o _ HB1.o;go_wp2_with fail;go_ret
 exact⟨by rw[hA.o];rfl,HBZ.o.trans (HB1.o.mono HBZ.o.size)⟩
theorem Jdq (t:Z8) (n:Int) (ps:List Ty) (fs:Bv) (vs:Bw) (hp:∀p∈ps,Aj p) (hf:∀f∈fs,Aj f.2.2) (hv:∀v∈vs,∀b∈v.2,Aj b) (hD:fs.length=0) (hE:vs.length=0) (hB:ps.all Ai=true) (hF:t.toList=[]) (hC:¬ 0<=n):Aj (.mk 9 t n ps fs vs):=by
 refine Bc 9 t n ps fs vs hp hf hv fun K w A c A' c' A'' c'' w1 h=>?_;obtain⟨HXC,KAll,KPl,KNm,KOb,KBi,KOv,HREP,HCN,HBZ,HB,HS1,HX0,HW1,hlp,hlf,hlv⟩:=h;clear hp hf hv;have hA:Z9 (Ai (.mk 9 t n ps fs vs)=false):=Hd (by
  rw[Aw,show Ak 9=⟨false,true,false,false,0,0,true⟩ from rfl,hB];unfold Ar Bq;simp[hD,hE,hF];exact fun _=>by omega)
 obtain⟨f1,f2,f3,f4⟩:=Gl (m:=fs.length) (n:=vs.length) (by omega) (by omega);rw[hB]at KAll;have f5:decide (0<=n)=false:=decide_eq_false hC;clear hD hE hC hB;go_enter Tryz.func38,Tryz.ntmps38;go_upto_region 1 with fail
 rw[<-HW1.o];obtain⟨x0,x1,x2,x3,x4,x5⟩:=HXC.o _ HB.o;go_wp2_with fail;refine (KAll.o _ HB.o).mono ?_;rintro e w2 ⟨rfl,hb⟩;have HB1:=Hd (HB.o.trans (hb.mono HB.o.size));clear hb;clear x0 x1 x2 x3 x4 x5;obtain⟨x0,x1,x2,x3,x4,x5⟩:=HXC.o _ HB1.o;go_wp2_with fail;go_ret
 exact⟨by rw[hA.o];rfl,HBZ.o.trans (HB1.o.mono HBZ.o.size)⟩
theorem Jdr (t:Z8) (n:Int) (ps:List Ty) (fs:Bv) (vs:Bw) (hp:∀p∈ps,Aj p) (hf:∀f∈fs,Aj f.2.2) (hv:∀v∈vs,∀b∈v.2,Aj b) (hD:fs.length=0) (hF:vs.length=0) (hC:ps.all Ai=true) (hG:t.toList=[]) (hB:0<=n) (hE:ps.length≠0):Aj (.mk 9 t n ps fs vs):=by
 refine Bc 9 t n ps fs vs hp hf hv fun K w A c A' c' A'' c'' w1 h=>?_;obtain⟨HXC,KAll,KPl,KNm,KOb,KBi,KOv,HREP,HCN,HBZ,HB,HS1,HX0,HW1,hlp,hlf,hlv⟩:=h;clear hp hf hv;have hA:Z9 (Ai (.mk 9 t n ps fs vs)=false):=Hd (by
  rw[Aw,show Ak 9=⟨false,true,false,false,0,0,true⟩ from rfl,hC];unfold Ar Bq;simp[hD,hF,hG,hB];exact fun h=>hE (by rw[h];rfl))
 obtain⟨f1,f2,f3,f4⟩:=Gl (m:=fs.length) (n:=vs.length) (by omega) (by omega);rw[hC]at KAll;have f5:decide (0<=n)=true:=decide_eq_true hB;have p1:((ps.length:Int) == 0)=false:=beq_eq_false_iff_ne.2 (by omega);have p2:(ps.length == 0)=false:=beq_eq_false_iff_ne.2 (by omega);have p3:decide (ps.length=0)=false:=decide_eq_false (by omega);have p4:decide ((ps.length:Int)=0)=false:=decide_eq_false (by omega);clear hD hF hE hB hC;go_enter Tryz.func38,Tryz.ntmps38;go_upto_region 1 with fail
 rw[<-HW1.o];obtain⟨x0,x1,x2,x3,x4,x5⟩:=HXC.o _ HB.o;go_wp2_with fail;refine (KAll.o _ HB.o).mono ?_;rintro e w2 ⟨rfl,hb⟩;have HB1:=Hd (HB.o.trans (hb.mono HB.o.size));clear hb;clear x0 x1 x2 x3 x4 x5;obtain⟨x0,x1,x2,x3,x4,x5⟩:=HXC.o _ HB1.o;go_wp2_with fail;go_ret
 exact⟨by rw[hA.o];rfl,HBZ.o.trans (HB1.o.mono HBZ.o.size)⟩
theorem Jdt (t:Z8) (n:Int) (ps:List Ty) (fs:Bv) (vs:Bw) (hp:∀p∈ps,Aj p) (hf:∀f∈fs,Aj f.2.2) (hv:∀v∈vs,∀b∈v.2,Aj b) (hD:fs.length=0) (hF:vs.length=0) (hC:ps.all Ai=true) (hG:t.toList=[]) (hB:0<=n) (hE:ps.length=0):Aj (.mk 9 t n ps fs vs):=by
 refine Bc 9 t n ps fs vs hp hf hv fun K w A c A' c' A'' c'' w1 h=>?_;obtain⟨HXC,KAll,KPl,KNm,KOb,KBi,KOv,HREP,HCN,HBZ,HB,HS1,HX0,HW1,hlp,hlf,hlv⟩:=h;clear hp hf hv;have hA:Z9 (Ai (.mk 9 t n ps fs vs)=true):=Hd (by
  rw[Aw,show Ak 9=⟨false,true,false,false,0,0,true⟩ from rfl,hC];unfold Ar Bq;simp[hD,hF,hG,hB,hE])
 obtain⟨f1,f2,f3,f4⟩:=Gl (m:=fs.length) (n:=vs.length) (by omega) (by omega);rw[hC]at KAll;have f5:decide (0<=n)=true:=decide_eq_true hB;have p1:((ps.length:Int) == 0)=true:=beq_iff_eq.2 (by omega);have p2:(ps.length == 0)=true:=beq_iff_eq.2 (by omega);have p3:decide (ps.length=0)=true:=decide_eq_true (by omega);have p4:decide ((ps.length:Int)=0)=true:=decide_eq_true (by omega);clear hD hF hE hB hC;go_enter Tryz.func38,Tryz.ntmps38;go_upto_region 1 with fail
 rw[<-HW1.o];obtain⟨x0,x1,x2,x3,x4,x5⟩:=HXC.o _ HB.o;go_wp2_with fail;refine (KAll.o _ HB.o).mono ?_;rintro e w2 ⟨rfl,hb⟩;have HB1:=Hd (HB.o.trans (hb.mono HB.o.size));clear hb;clear x0 x1 x2 x3 x4 x5;obtain⟨x0,x1,x2,x3,x4,x5⟩:=HXC.o _ HB1.o;go_wp2_with fail;go_ret
 exact⟨by rw[hA.o];rfl,HBZ.o.trans (HB1.o.mono HBZ.o.size)⟩
theorem θ (t:Z8) (n:Int) (ps:List Ty) (fs:Bv) (vs:Bw) (hp:∀p∈ps,Aj p) (hf:∀f∈fs,Aj f.2.2) (hv:∀v∈vs,∀b∈v.2,Aj b) (hD:fs.length=0) (hE:vs.length=0) (hC:ps.all Ai=true) (hB:n≠0):Aj (.mk 10 t n ps fs vs):=by
 refine Bc 10 t n ps fs vs hp hf hv fun K w A c A' c' A'' c'' w1 h=>?_;obtain⟨HXC,KAll,KPl,KNm,KOb,KBi,KOv,HREP,HCN,HBZ,HB,HS1,HX0,HW1,hlp,hlf,hlv⟩:=h;clear hp hf hv;have hA:Z9 (Ai (.mk 10 t n ps fs vs)=false):=Hd (by
  rw[Aw,show Ak 10=⟨true,false,false,false,0,0,true⟩ from rfl,hC];unfold Ar Bq;simp[hD,hE,hB])
 obtain⟨f1,f2,f3,f4⟩:=Gl (m:=fs.length) (n:=vs.length) (by omega) (by omega);rw[hC]at KAll;have f5:(n == 0)=false:=by simpa using hB
 clear hD hE hB hC;go_enter Tryz.func38,Tryz.ntmps38;go_upto_region 1 with fail
 rw[<-HW1.o];obtain⟨x0,x1,x2,x3,x4,x5⟩:=HXC.o _ HB.o;go_wp2_with fail;refine (KAll.o _ HB.o).mono ?_;rintro e w2 ⟨rfl,hb⟩;have HB1:=Hd (HB.o.trans (hb.mono HB.o.size));clear hb;clear x0 x1 x2 x3 x4 x5;obtain⟨x0,x1,x2,x3,x4,x5⟩:=HXC.o _ HB1.o;go_wp2_with fail;go_ret
 exact⟨by rw[hA.o];rfl,HBZ.o.trans (HB1.o.mono HBZ.o.size)⟩
theorem ι (t:Z8) (n:Int) (ps:List Ty) (fs:Bv) (vs:Bw) (hp:∀p∈ps,Aj p) (hf:∀f∈fs,Aj f.2.2) (hv:∀v∈vs,∀b∈v.2,Aj b) (hD:fs.length=0) (hF:vs.length=0) (hC:ps.all Ai=true) (hB:n=0) (hE:ps.length≠0):Aj (.mk 10 t n ps fs vs):=by
 refine Bc 10 t n ps fs vs hp hf hv fun K w A c A' c' A'' c'' w1 h=>?_;obtain⟨HXC,KAll,KPl,KNm,KOb,KBi,KOv,HREP,HCN,HBZ,HB,HS1,HX0,HW1,hlp,hlf,hlv⟩:=h;clear hp hf hv;have hA:Z9 (Ai (.mk 10 t n ps fs vs)=false):=Hd (by
  rw[Aw,show Ak 10=⟨true,false,false,false,0,0,true⟩ from rfl,hC];unfold Ar Bq;simp[hD,hF,hB];exact fun h=>hE (by rw[h];rfl))
 obtain⟨f1,f2,f3,f4⟩:=Gl (m:=fs.length) (n:=vs.length) (by omega) (by omega);rw[hC]at KAll;have f5:(n == 0)=true:=by simpa using hB
 have p1:((ps.length:Int) == 0)=false:=beq_eq_false_iff_ne.2 (by omega);have p2:(ps.length == 0)=false:=beq_eq_false_iff_ne.2 (by omega);have p3:decide (ps.length=0)=false:=decide_eq_false (by omega);have p4:decide ((ps.length:Int)=0)=false:=decide_eq_false (by omega);clear hD hF hE hB hC;go_enter Tryz.func38,Tryz.ntmps38;go_upto_region 1 with fail
 rw[<-HW1.o];obtain⟨x0,x1,x2,x3,x4,x5⟩:=HXC.o _ HB.o;go_wp2_with fail;refine (KAll.o _ HB.o).mono ?_;rintro e w2 ⟨rfl,hb⟩;have HB1:=Hd (HB.o.trans (hb.mono HB.o.size));clear hb;clear x0 x1 x2 x3 x4 x5;obtain⟨x0,x1,x2,x3,x4,x5⟩:=HXC.o _ HB1.o;go_wp2_with fail;go_ret
 exact⟨by rw[hA.o];rfl,HBZ.o.trans (HB1.o.mono HBZ.o.size)⟩
theorem κ (t:Z8) (n:Int) (ps:List Ty) (fs:Bv) (vs:Bw) (hp:∀p∈ps,Aj p) (hf:∀f∈fs,Aj f.2.2) (hv:∀v∈vs,∀b∈v.2,Aj b) (hD:fs.length=0) (hF:vs.length=0) (hC:ps.all Ai=true) (hB:n=0) (hE:ps.length=0):Aj (.mk 10 t n ps fs vs):=by
 refine Bc 10 t n ps fs vs hp hf hv fun K w A c A' c' A'' c'' w1 h=>?_;obtain⟨HXC,KAll,KPl,KNm,KOb,KBi,KOv,HREP,HCN,HBZ,HB,HS1,HX0,HW1,hlp,hlf,hlv⟩:=h;clear hp hf hv;have hA:Z9 (Ai (.mk 10 t n ps fs vs)=true):=Hd (by
  rw[Aw,show Ak 10=⟨true,false,false,false,0,0,true⟩ from rfl,hC];unfold Ar Bq;simp[hD,hF,hB,hE])
 obtain⟨f1,f2,f3,f4⟩:=Gl (m:=fs.length) (n:=vs.length) (by omega) (by omega);rw[hC]at KAll;have f5:(n == 0)=true:=by simpa using hB
 have p1:((ps.length:Int) == 0)=true:=beq_iff_eq.2 (by omega);have p2:(ps.length == 0)=true:=beq_iff_eq.2 (by omega);have p3:decide (ps.length=0)=true:=decide_eq_true (by omega);have p4:decide ((ps.length:Int)=0)=true:=decide_eq_true (by omega);clear hD hF hE hB hC;go_enter Tryz.func38,Tryz.ntmps38;go_upto_region 1 with fail
 rw[<-HW1.o];obtain⟨x0,x1,x2,x3,x4,x5⟩:=HXC.o _ HB.o;go_wp2_with fail;refine (KAll.o _ HB.o).mono ?_;rintro e w2 ⟨rfl,hb⟩;have HB1:=Hd (HB.o.trans (hb.mono HB.o.size));clear hb;clear x0 x1 x2 x3 x4 x5;obtain⟨x0,x1,x2,x3,x4,x5⟩:=HXC.o _ HB1.o;go_wp2_with fail;go_ret
 exact⟨by rw[hA.o];rfl,HBZ.o.trans (HB1.o.mono HBZ.o.size)⟩
theorem V6 (k:Int) (hk:k=11\/k=18) (t:Z8) (n:Int) (ps:List Ty) (fs:Bv) (vs:Bw) (hp:∀p∈ps,Aj p) (hf:∀f∈fs,Aj f.2.2) (hv:∀v∈vs,∀b∈v.2,Aj b) (hE:fs.length=0) (hF:vs.length=0) (hB:ps.all Ai=true) (a0:UInt8) (l0:List UInt8) (hC:t.toList=a0 :: l0):Aj (.mk k t n ps fs vs):=by
 refine Bc k t n ps fs vs hp hf hv fun K w A c A' c' A'' c'' w1 h=>?_;obtain⟨HXC,KAll,KPl,KNm,KOb,KBi,KOv,HREP,HCN,HBZ,HB,HS1,HX0,HW1,hlp,hlf,hlv⟩:=h;clear hp hf hv;have hs:Ak k=⟨false,false,false,false,1,1,true⟩:=by rcases hk with rfl|rfl <;> rfl
 have hA:Z9 (Ai (.mk k t n ps fs vs)=false):=Hd (by
  rcases hk with rfl|rfl
  all_goals (
   rw[Aw,hs,hB];unfold Ar Bq;simp[hE,hF,hC]))
 obtain⟨f1,f2,f3,f4⟩:=Gl (m:=fs.length) (n:=vs.length) (by omega) (by omega);rw[hB]at KAll;have ep:(t.toList == [] && n == 0)=false:=by rw[hC];rfl
 rw[ep]at KPl;clear hE hF hB hC;clear hs;rcases hk with rfl|rfl
 all_goals (
  go_enter Tryz.func38,Tryz.ntmps38;go_upto_region 1 with fail
  rw[<-HW1.o];obtain⟨x0,x1,x2,x3,x4,x5⟩:=HXC.o _ HB.o;go_wp2_with fail;refine (KAll.o _ HB.o).mono ?_;rintro e w2 ⟨rfl,hb⟩;have HB1:=Hd (HB.o.trans (hb.mono HB.o.size));clear hb;clear x0 x1 x2 x3 x4 x5;obtain⟨x0,x1,x2,x3,x4,x5⟩:=HXC.o _ HB1.o;go_wp2_with fail;refine (KPl.o _).mono ?_;rintro e w3 ⟨rfl,hb⟩;have hD:=Hd (HB1.o.trans (hb.mono HB1.o.size));clear hb;clear x0 x1 x2 x3 x4 x5;obtain⟨x0,x1,x2,x3,x4,x5⟩:=HXC.o _ hD.o;go_wp2_with fail;go_ret
  exact⟨by rw[hA.o];rfl,HBZ.o.trans (hD.o.mono HBZ.o.size)⟩)
theorem V4 (k:Int) (hk:k=11\/k=18) (t:Z8) (n:Int) (ps:List Ty) (fs:Bv) (vs:Bw) (hp:∀p∈ps,Aj p) (hf:∀f∈fs,Aj f.2.2) (hv:∀v∈vs,∀b∈v.2,Aj b) (hF:fs.length=0) (hG:vs.length=0) (hC:ps.all Ai=true) (hD:t.toList=[]) (hB:n≠0):Aj (.mk k t n ps fs vs):=by
 refine Bc k t n ps fs vs hp hf hv fun K w A c A' c' A'' c'' w1 h=>?_;obtain⟨HXC,KAll,KPl,KNm,KOb,KBi,KOv,HREP,HCN,HBZ,HB,HS1,HX0,HW1,hlp,hlf,hlv⟩:=h;clear hp hf hv;have hs:Ak k=⟨false,false,false,false,1,1,true⟩:=by rcases hk with rfl|rfl <;> rfl
 have hA:Z9 (Ai (.mk k t n ps fs vs)=false):=Hd (by
  rcases hk with rfl|rfl
  all_goals (
   rw[Aw,hs,hC];unfold Ar Bq;simp[hF,hG,hD,hB]))
 obtain⟨f1,f2,f3,f4⟩:=Gl (m:=fs.length) (n:=vs.length) (by omega) (by omega);rw[hC]at KAll;have ep:(t.toList == [] && n == 0)=false:=by rw[hD];simpa using hB
 rw[ep]at KPl;clear hF hG hB hC hD;clear hs;rcases hk with rfl|rfl
 all_goals (
  go_enter Tryz.func38,Tryz.ntmps38;go_upto_region 1 with fail
  rw[<-HW1.o];obtain⟨x0,x1,x2,x3,x4,x5⟩:=HXC.o _ HB.o;go_wp2_with fail;refine (KAll.o _ HB.o).mono ?_;rintro e w2 ⟨rfl,hb⟩;have HB1:=Hd (HB.o.trans (hb.mono HB.o.size));clear hb;clear x0 x1 x2 x3 x4 x5;obtain⟨x0,x1,x2,x3,x4,x5⟩:=HXC.o _ HB1.o;go_wp2_with fail;refine (KPl.o _).mono ?_;rintro e w3 ⟨rfl,hb⟩;have hE:=Hd (HB1.o.trans (hb.mono HB1.o.size));clear hb;clear x0 x1 x2 x3 x4 x5;obtain⟨x0,x1,x2,x3,x4,x5⟩:=HXC.o _ hE.o;go_wp2_with fail;go_ret
  exact⟨by rw[hA.o];rfl,HBZ.o.trans (hE.o.mono HBZ.o.size)⟩)
theorem V5 (k:Int) (hk:k=11\/k=18) (t:Z8) (n:Int) (ps:List Ty) (fs:Bv) (vs:Bw) (hp:∀p∈ps,Aj p) (hf:∀f∈fs,Aj f.2.2) (hv:∀v∈vs,∀b∈v.2,Aj b) (hF:fs.length=0) (hG:vs.length=0) (hC:ps.all Ai=true) (hD:t.toList=[]) (hB:n=0) (hH:ps.length≠1):Aj (.mk k t n ps fs vs):=by
 refine Bc k t n ps fs vs hp hf hv fun K w A c A' c' A'' c'' w1 h=>?_;obtain⟨HXC,KAll,KPl,KNm,KOb,KBi,KOv,HREP,HCN,HBZ,HB,HS1,HX0,HW1,hlp,hlf,hlv⟩:=h;clear hp hf hv;have hs:Ak k=⟨false,false,false,false,1,1,true⟩:=by rcases hk with rfl|rfl <;> rfl
 have hA:Z9 (Ai (.mk k t n ps fs vs)=false):=Hd (by
  rcases hk with rfl|rfl
  all_goals (
   rw[Aw,hs,hC];unfold Ar Bq;simp[hF,hG,hD,hB];omega))
 obtain⟨f1,f2,f3,f4⟩:=Gl (m:=fs.length) (n:=vs.length) (by omega) (by omega);rw[hC]at KAll;have ep:(t.toList == [] && n == 0)=true:=by rw[hD,hB];rfl
 rw[ep]at KPl;have p1:((ps.length:Int) == 1)=false:=beq_eq_false_iff_ne.2 (by omega);have p2:(ps.length == 1)=false:=beq_eq_false_iff_ne.2 (by omega);have p3:decide (ps.length=1)=false:=decide_eq_false (by omega);have p4:decide ((ps.length:Int)=1)=false:=decide_eq_false (by omega);clear hF hG hH hB hC hD;clear hs;rcases hk with rfl|rfl
 all_goals (
  go_enter Tryz.func38,Tryz.ntmps38;go_upto_region 1 with fail
  rw[<-HW1.o];obtain⟨x0,x1,x2,x3,x4,x5⟩:=HXC.o _ HB.o;go_wp2_with fail;refine (KAll.o _ HB.o).mono ?_;rintro e w2 ⟨rfl,hb⟩;have HB1:=Hd (HB.o.trans (hb.mono HB.o.size));clear hb;clear x0 x1 x2 x3 x4 x5;obtain⟨x0,x1,x2,x3,x4,x5⟩:=HXC.o _ HB1.o;go_wp2_with fail;refine (KPl.o _).mono ?_;rintro e w3 ⟨rfl,hb⟩;have hE:=Hd (HB1.o.trans (hb.mono HB1.o.size));clear hb;clear x0 x1 x2 x3 x4 x5;obtain⟨x0,x1,x2,x3,x4,x5⟩:=HXC.o _ hE.o;go_wp2_with fail;go_ret
  exact⟨by rw[hA.o];rfl,HBZ.o.trans (hE.o.mono HBZ.o.size)⟩)
theorem V7 (k:Int) (hk:k=11\/k=18) (t:Z8) (n:Int) (ps:List Ty) (fs:Bv) (vs:Bw) (hp:∀p∈ps,Aj p) (hf:∀f∈fs,Aj f.2.2) (hv:∀v∈vs,∀b∈v.2,Aj b) (hF:fs.length=0) (hH:vs.length=0) (hC:ps.all Ai=true) (hD:t.toList=[]) (hB:n=0) (hG:ps.length=1):Aj (.mk k t n ps fs vs):=by
 refine Bc k t n ps fs vs hp hf hv fun K w A c A' c' A'' c'' w1 h=>?_;obtain⟨HXC,KAll,KPl,KNm,KOb,KBi,KOv,HREP,HCN,HBZ,HB,HS1,HX0,HW1,hlp,hlf,hlv⟩:=h;clear hp hf hv;have hs:Ak k=⟨false,false,false,false,1,1,true⟩:=by rcases hk with rfl|rfl <;> rfl
 have hA:Z9 (Ai (.mk k t n ps fs vs)=true):=Hd (by
  rcases hk with rfl|rfl
  all_goals (
   rw[Aw,hs,hC];unfold Ar Bq;simp[hF,hH,hD,hB,hG]))
 obtain⟨f1,f2,f3,f4⟩:=Gl (m:=fs.length) (n:=vs.length) (by omega) (by omega);rw[hC]at KAll;have ep:(t.toList == [] && n == 0)=true:=by rw[hD,hB];rfl
 rw[ep]at KPl;have p1:((ps.length:Int) == 1)=true:=beq_iff_eq.2 (by omega);have p2:(ps.length == 1)=true:=beq_iff_eq.2 (by omega);have p3:decide (ps.length=1)=true:=decide_eq_true (by omega);have p4:decide ((ps.length:Int)=1)=true:=decide_eq_true (by omega);clear hF hH hG hB hC hD;clear hs;rcases hk with rfl|rfl
 all_goals (
  go_enter Tryz.func38,Tryz.ntmps38;go_upto_region 1 with fail
  rw[<-HW1.o];obtain⟨x0,x1,x2,x3,x4,x5⟩:=HXC.o _ HB.o;go_wp2_with fail;refine (KAll.o _ HB.o).mono ?_;rintro e w2 ⟨rfl,hb⟩;have HB1:=Hd (HB.o.trans (hb.mono HB.o.size));clear hb;clear x0 x1 x2 x3 x4 x5;obtain⟨x0,x1,x2,x3,x4,x5⟩:=HXC.o _ HB1.o;go_wp2_with fail;refine (KPl.o _).mono ?_;rintro e w3 ⟨rfl,hb⟩;have hE:=Hd (HB1.o.trans (hb.mono HB1.o.size));clear hb;clear x0 x1 x2 x3 x4 x5;obtain⟨x0,x1,x2,x3,x4,x5⟩:=HXC.o _ hE.o;go_wp2_with fail;go_ret
  exact⟨by rw[hA.o];rfl,HBZ.o.trans (hE.o.mono HBZ.o.size)⟩)
theorem ξ (t:Z8) (n:Int) (ps:List Ty) (fs:Bv) (vs:Bw) (hp:∀p∈ps,Aj p) (hf:∀f∈fs,Aj f.2.2) (hv:∀v∈vs,∀b∈v.2,Aj b) (hE:fs.length=0) (hF:vs.length=0) (hB:ps.all Ai=true) (a0:UInt8) (l0:List UInt8) (hC:t.toList=a0 :: l0):Aj (.mk 12 t n ps fs vs):=by
 refine Bc 12 t n ps fs vs hp hf hv fun K w A c A' c' A'' c'' w1 h=>?_;obtain⟨HXC,KAll,KPl,KNm,KOb,KBi,KOv,HREP,HCN,HBZ,HB,HS1,HX0,HW1,hlp,hlf,hlv⟩:=h;clear hp hf hv;have hA:Z9 (Ai (.mk 12 t n ps fs vs)=false):=Hd (by
  rw[Aw,show Ak 12=⟨false,false,false,false,0,-1,true⟩ from rfl,hB];unfold Ar Bq;simp[hE,hF,hC])
 obtain⟨f1,f2,f3,f4⟩:=Gl (m:=fs.length) (n:=vs.length) (by omega) (by omega);rw[hB]at KAll;have ep:(t.toList == [] && n == 0)=false:=by rw[hC];rfl
 rw[ep]at KPl;clear hE hF hB hC;go_enter Tryz.func38,Tryz.ntmps38;go_upto_region 1 with fail
 rw[<-HW1.o];obtain⟨x0,x1,x2,x3,x4,x5⟩:=HXC.o _ HB.o;go_wp2_with fail;refine (KAll.o _ HB.o).mono ?_;rintro e w2 ⟨rfl,hb⟩;have HB1:=Hd (HB.o.trans (hb.mono HB.o.size));clear hb;clear x0 x1 x2 x3 x4 x5;obtain⟨x0,x1,x2,x3,x4,x5⟩:=HXC.o _ HB1.o;go_wp2_with fail;refine (KPl.o _).mono ?_;rintro e w3 ⟨rfl,hb⟩;have hD:=Hd (HB1.o.trans (hb.mono HB1.o.size));clear hb;clear x0 x1 x2 x3 x4 x5;obtain⟨x0,x1,x2,x3,x4,x5⟩:=HXC.o _ hD.o;go_wp2_with fail;go_ret
 exact⟨by rw[hA.o];rfl,HBZ.o.trans (hD.o.mono HBZ.o.size)⟩
theorem ν (t:Z8) (n:Int) (ps:List Ty) (fs:Bv) (vs:Bw) (hp:∀p∈ps,Aj p) (hf:∀f∈fs,Aj f.2.2) (hv:∀v∈vs,∀b∈v.2,Aj b) (hF:fs.length=0) (hG:vs.length=0) (hC:ps.all Ai=true) (hD:t.toList=[]) (hB:n≠0):Aj (.mk 12 t n ps fs vs):=by
 refine Bc 12 t n ps fs vs hp hf hv fun K w A c A' c' A'' c'' w1 h=>?_;obtain⟨HXC,KAll,KPl,KNm,KOb,KBi,KOv,HREP,HCN,HBZ,HB,HS1,HX0,HW1,hlp,hlf,hlv⟩:=h;clear hp hf hv;have hA:Z9 (Ai (.mk 12 t n ps fs vs)=false):=Hd (by
  rw[Aw,show Ak 12=⟨false,false,false,false,0,-1,true⟩ from rfl,hC];unfold Ar Bq;simp[hF,hG,hD,hB])
 obtain⟨f1,f2,f3,f4⟩:=Gl (m:=fs.length) (n:=vs.length) (by omega) (by omega);rw[hC]at KAll;have ep:(t.toList == [] && n == 0)=false:=by rw[hD];simpa using hB
 rw[ep]at KPl;clear hF hG hB hC hD;go_enter Tryz.func38,Tryz.ntmps38;go_upto_region 1 with fail
 rw[<-HW1.o];obtain⟨x0,x1,x2,x3,x4,x5⟩:=HXC.o _ HB.o;go_wp2_with fail;refine (KAll.o _ HB.o).mono ?_;rintro e w2 ⟨rfl,hb⟩;have HB1:=Hd (HB.o.trans (hb.mono HB.o.size));clear hb;clear x0 x1 x2 x3 x4 x5;obtain⟨x0,x1,x2,x3,x4,x5⟩:=HXC.o _ HB1.o;go_wp2_with fail;refine (KPl.o _).mono ?_;rintro e w3 ⟨rfl,hb⟩;have hE:=Hd (HB1.o.trans (hb.mono HB1.o.size));clear hb;clear x0 x1 x2 x3 x4 x5;obtain⟨x0,x1,x2,x3,x4,x5⟩:=HXC.o _ hE.o;go_wp2_with fail;go_ret
 exact⟨by rw[hA.o];rfl,HBZ.o.trans (hE.o.mono HBZ.o.size)⟩
theorem σ (t:Z8) (n:Int) (ps:List Ty) (fs:Bv) (vs:Bw) (hp:∀p∈ps,Aj p) (hf:∀f∈fs,Aj f.2.2) (hv:∀v∈vs,∀b∈v.2,Aj b) (hF:fs.length=0) (hG:vs.length=0) (hC:ps.all Ai=true) (hD:t.toList=[]) (hB:n=0):Aj (.mk 12 t n ps fs vs):=by
 refine Bc 12 t n ps fs vs hp hf hv fun K w A c A' c' A'' c'' w1 h=>?_;obtain⟨HXC,KAll,KPl,KNm,KOb,KBi,KOv,HREP,HCN,HBZ,HB,HS1,HX0,HW1,hlp,hlf,hlv⟩:=h;clear hp hf hv;have hA:Z9 (Ai (.mk 12 t n ps fs vs)=true):=Hd (by
  rw[Aw,show Ak 12=⟨false,false,false,false,0,-1,true⟩ from rfl,hC];unfold Ar Bq;simp[hF,hG,hD,hB])
 obtain⟨f1,f2,f3,f4⟩:=Gl (m:=fs.length) (n:=vs.length) (by omega) (by omega);rw[hC]at KAll;have ep:(t.toList == [] && n == 0)=true:=by rw[hD,hB];rfl
 rw[ep]at KPl;clear hF hG hB hC hD;go_enter Tryz.func38,Tryz.ntmps38;go_upto_region 1 with fail
 rw[<-HW1.o];obtain⟨x0,x1,x2,x3,x4,x5⟩:=HXC.o _ HB.o;go_wp2_with fail;refine (KAll.o _ HB.o).mono ?_;rintro e w2 ⟨rfl,hb⟩;have HB1:=Hd (HB.o.trans (hb.mono HB.o.size));clear hb;clear x0 x1 x2 x3 x4 x5;obtain⟨x0,x1,x2,x3,x4,x5⟩:=HXC.o _ HB1.o;go_wp2_with fail;refine (KPl.o _).mono ?_;rintro e w3 ⟨rfl,hb⟩;have hE:=Hd (HB1.o.trans (hb.mono HB1.o.size));clear hb;clear x0 x1 x2 x3 x4 x5;obtain⟨x0,x1,x2,x3,x4,x5⟩:=HXC.o _ hE.o;go_wp2_with fail;go_ret
 exact⟨by rw[hA.o];rfl,HBZ.o.trans (hE.o.mono HBZ.o.size)⟩
theorem φ (t:Z8) (n:Int) (ps:List Ty) (fs:Bv) (vs:Bw) (hp:∀p∈ps,Aj p) (hf:∀f∈fs,Aj f.2.2) (hv:∀v∈vs,∀b∈v.2,Aj b) (hE:fs.length=0) (hB:ps.all Ai=true) (a0:UInt8) (l0:List UInt8) (hC:t.toList=a0 :: l0):Aj (.mk 13 t n ps fs vs):=by
 refine Bc 13 t n ps fs vs hp hf hv fun K w A c A' c' A'' c'' w1 h=>?_;obtain⟨HXC,KAll,KPl,KNm,KOb,KBi,KOv,HREP,HCN,HBZ,HB,HS1,HX0,HW1,hlp,hlf,hlv⟩:=h;clear hp hf hv;have hA:Z9 (Ai (.mk 13 t n ps fs vs)=false):=Hd (by
  rw[Aw,show Ak 13=⟨false,false,false,true,1,-1,true⟩ from rfl,hB];unfold Ar Bq;simp[hE,hC])
 have f1:decide ((0:Int)<(fs.length:Int))=false:=decide_eq_false (by omega);have f2:decide (0<fs.length)=false:=decide_eq_false (by omega);rw[hB]at KAll;have ep:(t.toList == [] && n == 0)=false:=by rw[hC];rfl
 rw[ep]at KPl;clear hE hB hC;go_enter Tryz.func38,Tryz.ntmps38;go_upto_region 1 with fail
 rw[<-HW1.o];obtain⟨x0,x1,x2,x3,x4,x5⟩:=HXC.o _ HB.o;go_wp2_with fail;refine (KAll.o _ HB.o).mono ?_;rintro e w2 ⟨rfl,hb⟩;have HB1:=Hd (HB.o.trans (hb.mono HB.o.size));clear hb;clear x0 x1 x2 x3 x4 x5;obtain⟨x0,x1,x2,x3,x4,x5⟩:=HXC.o _ HB1.o;go_wp2_with fail;refine (KPl.o _).mono ?_;rintro e w3 ⟨rfl,hb⟩;have hD:=Hd (HB1.o.trans (hb.mono HB1.o.size));clear hb;clear x0 x1 x2 x3 x4 x5;obtain⟨x0,x1,x2,x3,x4,x5⟩:=HXC.o _ hD.o;go_wp2_with fail;go_ret
 exact⟨by rw[hA.o];rfl,HBZ.o.trans (hD.o.mono HBZ.o.size)⟩
theorem τ (t:Z8) (n:Int) (ps:List Ty) (fs:Bv) (vs:Bw) (hp:∀p∈ps,Aj p) (hf:∀f∈fs,Aj f.2.2) (hv:∀v∈vs,∀b∈v.2,Aj b) (hF:fs.length=0) (hC:ps.all Ai=true) (hD:t.toList=[]) (hB:n≠0):Aj (.mk 13 t n ps fs vs):=by
 refine Bc 13 t n ps fs vs hp hf hv fun K w A c A' c' A'' c'' w1 h=>?_;obtain⟨HXC,KAll,KPl,KNm,KOb,KBi,KOv,HREP,HCN,HBZ,HB,HS1,HX0,HW1,hlp,hlf,hlv⟩:=h;clear hp hf hv;have hA:Z9 (Ai (.mk 13 t n ps fs vs)=false):=Hd (by
  rw[Aw,show Ak 13=⟨false,false,false,true,1,-1,true⟩ from rfl,hC];unfold Ar Bq;simp[hF,hD,hB])
 have f1:decide ((0:Int)<(fs.length:Int))=false:=decide_eq_false (by omega);have f2:decide (0<fs.length)=false:=decide_eq_false (by omega);rw[hC]at KAll;have ep:(t.toList == [] && n == 0)=false:=by rw[hD];simpa using hB
 rw[ep]at KPl;clear hF hB hC hD;go_enter Tryz.func38,Tryz.ntmps38;go_upto_region 1 with fail
 rw[<-HW1.o];obtain⟨x0,x1,x2,x3,x4,x5⟩:=HXC.o _ HB.o;go_wp2_with fail;refine (KAll.o _ HB.o).mono ?_;rintro e w2 ⟨rfl,hb⟩;have HB1:=Hd (HB.o.trans (hb.mono HB.o.size));clear hb;clear x0 x1 x2 x3 x4 x5;obtain⟨x0,x1,x2,x3,x4,x5⟩:=HXC.o _ HB1.o;go_wp2_with fail;refine (KPl.o _).mono ?_;rintro e w3 ⟨rfl,hb⟩;have hE:=Hd (HB1.o.trans (hb.mono HB1.o.size));clear hb;clear x0 x1 x2 x3 x4 x5;obtain⟨x0,x1,x2,x3,x4,x5⟩:=HXC.o _ hE.o;go_wp2_with fail;go_ret
 exact⟨by rw[hA.o];rfl,HBZ.o.trans (hE.o.mono HBZ.o.size)⟩
theorem υ (t:Z8) (n:Int) (ps:List Ty) (fs:Bv) (vs:Bw) (hp:∀p∈ps,Aj p) (hf:∀f∈fs,Aj f.2.2) (hv:∀v∈vs,∀b∈v.2,Aj b) (hF:fs.length=0) (hC:ps.all Ai=true) (hD:t.toList=[]) (hB:n=0) (hG:¬ 1<=ps.length):Aj (.mk 13 t n ps fs vs):=by
 refine Bc 13 t n ps fs vs hp hf hv fun K w A c A' c' A'' c'' w1 h=>?_;obtain⟨HXC,KAll,KPl,KNm,KOb,KBi,KOv,HREP,HCN,HBZ,HB,HS1,HX0,HW1,hlp,hlf,hlv⟩:=h;clear hp hf hv;have hA:Z9 (Ai (.mk 13 t n ps fs vs)=false):=Hd (by
  rw[Aw,show Ak 13=⟨false,false,false,true,1,-1,true⟩ from rfl,hC];unfold Ar Bq;simp[hF,hD,hB];omega)
 have f1:decide ((0:Int)<(fs.length:Int))=false:=decide_eq_false (by omega);have f2:decide (0<fs.length)=false:=decide_eq_false (by omega);rw[hC]at KAll;have ep:(t.toList == [] && n == 0)=true:=by rw[hD,hB];rfl
 rw[ep]at KPl;have p1:decide ((1:Int)<=(ps.length:Int))=false:=decide_eq_false (by omega);have p2:decide (1<=ps.length)=false:=decide_eq_false (by omega);clear hF hG hB hC hD;go_enter Tryz.func38,Tryz.ntmps38;go_upto_region 1 with fail
 rw[<-HW1.o];obtain⟨x0,x1,x2,x3,x4,x5⟩:=HXC.o _ HB.o;go_wp2_with fail;refine (KAll.o _ HB.o).mono ?_;rintro e w2 ⟨rfl,hb⟩;have HB1:=Hd (HB.o.trans (hb.mono HB.o.size));clear hb;clear x0 x1 x2 x3 x4 x5;obtain⟨x0,x1,x2,x3,x4,x5⟩:=HXC.o _ HB1.o;go_wp2_with fail;refine (KPl.o _).mono ?_;rintro e w3 ⟨rfl,hb⟩;have hE:=Hd (HB1.o.trans (hb.mono HB1.o.size));clear hb;clear x0 x1 x2 x3 x4 x5;obtain⟨x0,x1,x2,x3,x4,x5⟩:=HXC.o _ hE.o;go_wp2_with fail;go_ret
 exact⟨by rw[hA.o];rfl,HBZ.o.trans (hE.o.mono HBZ.o.size)⟩
theorem Xy (t:Z8) (n:Int) (ps:List Ty) (fs:Bv) (vs:Bw) (hp:∀p∈ps,Aj p) (hf:∀f∈fs,Aj f.2.2) (hv:∀v∈vs,∀b∈v.2,Aj b) (hH:fs.length=0) (hE:ps.all Ai=true) (hF:t.toList=[]) (hD:n=0) (hI:1<=ps.length) (hC:Ef (Dh vs Ai)=false):Aj (.mk 13 t n ps fs vs):=by
 refine Bc 13 t n ps fs vs hp hf hv fun K w A c A' c' A'' c'' w1 h=>?_;obtain⟨HXC,KAll,KPl,KNm,KOb,KBi,KOv,HREP,HCN,HBZ,HB,HS1,HX0,HW1,hlp,hlf,hlv⟩:=h;clear hp hf hv;have hB:Z9 (Ai (.mk 13 t n ps fs vs)=false):=Hd (by
  rw[Aw,show Ak 13=⟨false,false,false,true,1,-1,true⟩ from rfl,hE];unfold Ar Bq;simp[hH,hF,hD,hC])
 have f1:decide ((0:Int)<(fs.length:Int))=false:=decide_eq_false (by omega);have f2:decide (0<fs.length)=false:=decide_eq_false (by omega);rw[hE]at KAll;have ep:(t.toList == [] && n == 0)=true:=by rw[hF,hD];rfl
 rw[ep]at KPl;have p1:decide ((1:Int)<=(ps.length:Int))=true:=decide_eq_true (by omega);have p2:decide (1<=ps.length)=true:=decide_eq_true (by omega);rw[hC]at KBi;clear hH hI hD hE hC hF;go_enter Tryz.func38,Tryz.ntmps38;go_upto_region 1 with fail
 rw[<-HW1.o];obtain⟨x0,x1,x2,x3,x4,x5⟩:=HXC.o _ HB.o;go_wp2_with fail;refine (KAll.o _ HB.o).mono ?_;rintro e w2 ⟨rfl,hb⟩;have HB1:=Hd (HB.o.trans (hb.mono HB.o.size));clear hb;clear x0 x1 x2 x3 x4 x5;obtain⟨x0,x1,x2,x3,x4,x5⟩:=HXC.o _ HB1.o;go_wp2_with fail;refine (KPl.o _).mono ?_;rintro e w3 ⟨rfl,hb⟩;have hA:=Hd (HB1.o.trans (hb.mono HB1.o.size));clear hb;clear x0 x1 x2 x3 x4 x5;obtain⟨x0,x1,x2,x3,x4,x5⟩:=HXC.o _ hA.o;go_wp2_with fail;refine (KBi.o _ hA.o).mono ?_;rintro e w4 ⟨rfl,hb⟩;have hG:=Hd (hA.o.trans (hb.mono hA.o.size));clear hb;clear x0 x1 x2 x3 x4 x5;obtain⟨x0,x1,x2,x3,x4,x5⟩:=HXC.o _ hG.o;go_wp2_with fail;go_ret
 exact⟨by rw[hB.o];rfl,HBZ.o.trans (hG.o.mono HBZ.o.size)⟩
theorem Xz (t:Z8) (n:Int) (ps:List Ty) (fs:Bv) (vs:Bw) (hp:∀p∈ps,Aj p) (hf:∀f∈fs,Aj f.2.2) (hv:∀v∈vs,∀b∈v.2,Aj b) (hH:fs.length=0) (hE:ps.all Ai=true) (hF:t.toList=[]) (hD:n=0) (hI:1<=ps.length) (hC:Ef (Dh vs Ai)=true):Aj (.mk 13 t n ps fs vs):=by
 refine Bc 13 t n ps fs vs hp hf hv fun K w A c A' c' A'' c'' w1 h=>?_;obtain⟨HXC,KAll,KPl,KNm,KOb,KBi,KOv,HREP,HCN,HBZ,HB,HS1,HX0,HW1,hlp,hlf,hlv⟩:=h;clear hp hf hv;have hB:Z9 (Ai (.mk 13 t n ps fs vs)=true):=Hd (by
  rw[Aw,show Ak 13=⟨false,false,false,true,1,-1,true⟩ from rfl,hE];unfold Ar Bq;simp[hH,hF,hD,hC];omega)
 have f1:decide ((0:Int)<(fs.length:Int))=false:=decide_eq_false (by omega);have f2:decide (0<fs.length)=false:=decide_eq_false (by omega);rw[hE]at KAll;have ep:(t.toList == [] && n == 0)=true:=by rw[hF,hD];rfl
 rw[ep]at KPl;have p1:decide ((1:Int)<=(ps.length:Int))=true:=decide_eq_true (by omega);have p2:decide (1<=ps.length)=true:=decide_eq_true (by omega);rw[hC]at KBi;clear hH hI hD hE hC hF;go_enter Tryz.func38,Tryz.ntmps38;go_upto_region 1 with fail
 rw[<-HW1.o];obtain⟨x0,x1,x2,x3,x4,x5⟩:=HXC.o _ HB.o;go_wp2_with fail;refine (KAll.o _ HB.o).mono ?_;rintro e w2 ⟨rfl,hb⟩;have HB1:=Hd (HB.o.trans (hb.mono HB.o.size));clear hb;clear x0 x1 x2 x3 x4 x5;obtain⟨x0,x1,x2,x3,x4,x5⟩:=HXC.o _ HB1.o;go_wp2_with fail;refine (KPl.o _).mono ?_;rintro e w3 ⟨rfl,hb⟩;have hA:=Hd (HB1.o.trans (hb.mono HB1.o.size));clear hb;clear x0 x1 x2 x3 x4 x5;obtain⟨x0,x1,x2,x3,x4,x5⟩:=HXC.o _ hA.o;go_wp2_with fail;refine (KBi.o _ hA.o).mono ?_;rintro e w4 ⟨rfl,hb⟩;have hG:=Hd (hA.o.trans (hb.mono hA.o.size));clear hb;clear x0 x1 x2 x3 x4 x5;obtain⟨x0,x1,x2,x3,x4,x5⟩:=HXC.o _ hG.o;go_wp2_with fail;go_ret
 exact⟨by rw[hB.o];rfl,HBZ.o.trans (hG.o.mono HBZ.o.size)⟩
