import Derived.Test.YtlpfpehegddcfaaGreatDoorMw24
namespace Go.Proofs.YtlpfpehegddcfaaGreatDoor
set_option maxRecDepth 100000
set_option maxHeartbeats 64000000
open Go.RowKit
theorem ω (t:Z8) (n:Int) (ps:List Ty) (fs:Bv) (vs:Bw) (hp:∀p∈ps,Aj p) (hf:∀f∈fs,Aj f.2.2) (hv:∀v∈vs,∀b∈v.2,Aj b) (hE:vs.length=0) (hB:ps.all Ai=true) (a0:UInt8) (l0:List UInt8) (hC:t.toList=a0 :: l0):Aj (.mk 14 t n ps fs vs):=by
 refine Bc 14 t n ps fs vs hp hf hv fun K w A c A' c' A'' c'' w1 h=>?_;obtain⟨HXC,KAll,KPl,KNm,KOb,KBi,KOv,HREP,HCN,HBZ,HB,HS1,HX0,HW1,hlp,hlf,hlv⟩:=h;clear hp hf hv;have hA:Z9 (Ai (.mk 14 t n ps fs vs)=false):=Hd (by
  rw[Aw,show Ak 14=⟨false,false,true,false,0,0,true⟩ from rfl,hB];unfold Ar Bq;simp[hE,hC])
 have f3:decide ((0:Int)<(vs.length:Int))=false:=decide_eq_false (by omega);have f4:decide (0<vs.length)=false:=decide_eq_false (by omega);rw[hB]at KAll;have ep:(t.toList == [] && n == 0)=false:=by rw[hC];rfl
 rw[ep]at KPl;clear hE hB hC;go_enter Tryz.func38,Tryz.ntmps38;go_upto_region 1 with fail
 rw[<-HW1.o];obtain⟨x0,x1,x2,x3,x4,x5⟩:=HXC.o _ HB.o;go_wp2_with fail;refine (KAll.o _ HB.o).mono ?_;rintro e w2 ⟨rfl,hb⟩;have HB1:=Hd (HB.o.trans (hb.mono HB.o.size));clear hb;clear x0 x1 x2 x3 x4 x5;obtain⟨x0,x1,x2,x3,x4,x5⟩:=HXC.o _ HB1.o;go_wp2_with fail;refine (KPl.o _).mono ?_;rintro e w3 ⟨rfl,hb⟩;have hD:=Hd (HB1.o.trans (hb.mono HB1.o.size));clear hb;clear x0 x1 x2 x3 x4 x5;obtain⟨x0,x1,x2,x3,x4,x5⟩:=HXC.o _ hD.o;go_wp2_with fail;go_ret
 exact⟨by rw[hA.o];rfl,HBZ.o.trans (hD.o.mono HBZ.o.size)⟩
theorem χ (t:Z8) (n:Int) (ps:List Ty) (fs:Bv) (vs:Bw) (hp:∀p∈ps,Aj p) (hf:∀f∈fs,Aj f.2.2) (hv:∀v∈vs,∀b∈v.2,Aj b) (hF:vs.length=0) (hC:ps.all Ai=true) (hD:t.toList=[]) (hB:n≠0):Aj (.mk 14 t n ps fs vs):=by
 refine Bc 14 t n ps fs vs hp hf hv fun K w A c A' c' A'' c'' w1 h=>?_;obtain⟨HXC,KAll,KPl,KNm,KOb,KBi,KOv,HREP,HCN,HBZ,HB,HS1,HX0,HW1,hlp,hlf,hlv⟩:=h;clear hp hf hv;have hA:Z9 (Ai (.mk 14 t n ps fs vs)=false):=Hd (by
  rw[Aw,show Ak 14=⟨false,false,true,false,0,0,true⟩ from rfl,hC];unfold Ar Bq;simp[hF,hD,hB])
 have f3:decide ((0:Int)<(vs.length:Int))=false:=decide_eq_false (by omega);have f4:decide (0<vs.length)=false:=decide_eq_false (by omega);rw[hC]at KAll;have ep:(t.toList == [] && n == 0)=false:=by rw[hD];simpa using hB
 rw[ep]at KPl;clear hF hB hC hD;go_enter Tryz.func38,Tryz.ntmps38;go_upto_region 1 with fail
 rw[<-HW1.o];obtain⟨x0,x1,x2,x3,x4,x5⟩:=HXC.o _ HB.o;go_wp2_with fail;refine (KAll.o _ HB.o).mono ?_;rintro e w2 ⟨rfl,hb⟩;have HB1:=Hd (HB.o.trans (hb.mono HB.o.size));clear hb;clear x0 x1 x2 x3 x4 x5;obtain⟨x0,x1,x2,x3,x4,x5⟩:=HXC.o _ HB1.o;go_wp2_with fail;refine (KPl.o _).mono ?_;rintro e w3 ⟨rfl,hb⟩;have hE:=Hd (HB1.o.trans (hb.mono HB1.o.size));clear hb;clear x0 x1 x2 x3 x4 x5;obtain⟨x0,x1,x2,x3,x4,x5⟩:=HXC.o _ hE.o;go_wp2_with fail;go_ret
 exact⟨by rw[hA.o];rfl,HBZ.o.trans (hE.o.mono HBZ.o.size)⟩
theorem ψ (t:Z8) (n:Int) (ps:List Ty) (fs:Bv) (vs:Bw) (hp:∀p∈ps,Aj p) (hf:∀f∈fs,Aj f.2.2) (hv:∀v∈vs,∀b∈v.2,Aj b) (hG:vs.length=0) (hC:ps.all Ai=true) (hD:t.toList=[]) (hB:n=0) (hF:ps.length≠0):Aj (.mk 14 t n ps fs vs):=by
 refine Bc 14 t n ps fs vs hp hf hv fun K w A c A' c' A'' c'' w1 h=>?_;obtain⟨HXC,KAll,KPl,KNm,KOb,KBi,KOv,HREP,HCN,HBZ,HB,HS1,HX0,HW1,hlp,hlf,hlv⟩:=h;clear hp hf hv;have hA:Z9 (Ai (.mk 14 t n ps fs vs)=false):=Hd (by
  rw[Aw,show Ak 14=⟨false,false,true,false,0,0,true⟩ from rfl,hC];unfold Ar Bq;simp[hG,hD,hB];exact fun h=>absurd (by rw[h];rfl) hF)
 have f3:decide ((0:Int)<(vs.length:Int))=false:=decide_eq_false (by omega);have f4:decide (0<vs.length)=false:=decide_eq_false (by omega);rw[hC]at KAll;have ep:(t.toList == [] && n == 0)=true:=by rw[hD,hB];rfl
 rw[ep]at KPl;have p1:((ps.length:Int) == 0)=false:=beq_eq_false_iff_ne.2 (by omega);have p2:(ps.length == 0)=false:=beq_eq_false_iff_ne.2 (by omega);have p3:decide (ps.length=0)=false:=decide_eq_false (by omega);have p4:decide ((ps.length:Int)=0)=false:=decide_eq_false (by omega);clear hG hF hB hC hD;go_enter Tryz.func38,Tryz.ntmps38;go_upto_region 1 with fail
 rw[<-HW1.o];obtain⟨x0,x1,x2,x3,x4,x5⟩:=HXC.o _ HB.o;go_wp2_with fail;refine (KAll.o _ HB.o).mono ?_;rintro e w2 ⟨rfl,hb⟩;have HB1:=Hd (HB.o.trans (hb.mono HB.o.size));clear hb;clear x0 x1 x2 x3 x4 x5;obtain⟨x0,x1,x2,x3,x4,x5⟩:=HXC.o _ HB1.o;go_wp2_with fail;refine (KPl.o _).mono ?_;rintro e w3 ⟨rfl,hb⟩;have hE:=Hd (HB1.o.trans (hb.mono HB1.o.size));clear hb;clear x0 x1 x2 x3 x4 x5;obtain⟨x0,x1,x2,x3,x4,x5⟩:=HXC.o _ hE.o;go_wp2_with fail;go_ret
 exact⟨by rw[hA.o];rfl,HBZ.o.trans (hE.o.mono HBZ.o.size)⟩
theorem X0 (t:Z8) (n:Int) (ps:List Ty) (fs:Bv) (vs:Bw) (hp:∀p∈ps,Aj p) (hf:∀f∈fs,Aj f.2.2) (hv:∀v∈vs,∀b∈v.2,Aj b) (hH:vs.length=0) (hE:ps.all Ai=true) (hF:t.toList=[]) (hC:n=0) (hI:ps.length=0) (hD:Cd (Bn fs Ai)=false):Aj (.mk 14 t n ps fs vs):=by
 refine Bc 14 t n ps fs vs hp hf hv fun K w A c A' c' A'' c'' w1 h=>?_;obtain⟨HXC,KAll,KPl,KNm,KOb,KBi,KOv,HREP,HCN,HBZ,HB,HS1,HX0,HW1,hlp,hlf,hlv⟩:=h;clear hp hf hv;have hB:Z9 (Ai (.mk 14 t n ps fs vs)=false):=Hd (by
  rw[Aw,show Ak 14=⟨false,false,true,false,0,0,true⟩ from rfl,hE];unfold Ar Bq;simp[hH,hF,hC,hD])
 have f3:decide ((0:Int)<(vs.length:Int))=false:=decide_eq_false (by omega);have f4:decide (0<vs.length)=false:=decide_eq_false (by omega);rw[hE]at KAll;have ep:(t.toList == [] && n == 0)=true:=by rw[hF,hC];rfl
 rw[ep]at KPl;have p1:((ps.length:Int) == 0)=true:=beq_iff_eq.2 (by omega);have p2:(ps.length == 0)=true:=beq_iff_eq.2 (by omega);have p3:decide (ps.length=0)=true:=decide_eq_true (by omega);have p4:decide ((ps.length:Int)=0)=true:=decide_eq_true (by omega);rw[hD]at KOb;clear hH hI hC hE hD hF;go_enter Tryz.func38,Tryz.ntmps38;go_upto_region 1 with fail
 rw[<-HW1.o];obtain⟨x0,x1,x2,x3,x4,x5⟩:=HXC.o _ HB.o;go_wp2_with fail;refine (KAll.o _ HB.o).mono ?_;rintro e w2 ⟨rfl,hb⟩;have HB1:=Hd (HB.o.trans (hb.mono HB.o.size));clear hb;clear x0 x1 x2 x3 x4 x5;obtain⟨x0,x1,x2,x3,x4,x5⟩:=HXC.o _ HB1.o;go_wp2_with fail;refine (KPl.o _).mono ?_;rintro e w3 ⟨rfl,hb⟩;have hA:=Hd (HB1.o.trans (hb.mono HB1.o.size));clear hb;clear x0 x1 x2 x3 x4 x5;obtain⟨x0,x1,x2,x3,x4,x5⟩:=HXC.o _ hA.o;go_wp2_with fail;refine (KOb.o _ hA.o).mono ?_;rintro e w4 ⟨rfl,hb⟩;have hG:=Hd (hA.o.trans (hb.mono hA.o.size));clear hb;clear x0 x1 x2 x3 x4 x5;obtain⟨x0,x1,x2,x3,x4,x5⟩:=HXC.o _ hG.o;go_wp2_with fail;go_ret
 exact⟨by rw[hB.o];rfl,HBZ.o.trans (hG.o.mono HBZ.o.size)⟩
theorem X1 (t:Z8) (n:Int) (ps:List Ty) (fs:Bv) (vs:Bw) (hp:∀p∈ps,Aj p) (hf:∀f∈fs,Aj f.2.2) (hv:∀v∈vs,∀b∈v.2,Aj b) (hI:vs.length=0) (hE:ps.all Ai=true) (hF:t.toList=[]) (hC:n=0) (hH:ps.length=0) (hD:Cd (Bn fs Ai)=true):Aj (.mk 14 t n ps fs vs):=by
 refine Bc 14 t n ps fs vs hp hf hv fun K w A c A' c' A'' c'' w1 h=>?_;obtain⟨HXC,KAll,KPl,KNm,KOb,KBi,KOv,HREP,HCN,HBZ,HB,HS1,HX0,HW1,hlp,hlf,hlv⟩:=h;clear hp hf hv;have hB:Z9 (Ai (.mk 14 t n ps fs vs)=true):=Hd (by
  rw[Aw,show Ak 14=⟨false,false,true,false,0,0,true⟩ from rfl,hE];unfold Ar Bq;simp[hI,hF,hC,hD,hH])
 have f3:decide ((0:Int)<(vs.length:Int))=false:=decide_eq_false (by omega);have f4:decide (0<vs.length)=false:=decide_eq_false (by omega);rw[hE]at KAll;have ep:(t.toList == [] && n == 0)=true:=by rw[hF,hC];rfl
 rw[ep]at KPl;have p1:((ps.length:Int) == 0)=true:=beq_iff_eq.2 (by omega);have p2:(ps.length == 0)=true:=beq_iff_eq.2 (by omega);have p3:decide (ps.length=0)=true:=decide_eq_true (by omega);have p4:decide ((ps.length:Int)=0)=true:=decide_eq_true (by omega);rw[hD]at KOb;clear hI hH hC hE hD hF;go_enter Tryz.func38,Tryz.ntmps38;go_upto_region 1 with fail
 rw[<-HW1.o];obtain⟨x0,x1,x2,x3,x4,x5⟩:=HXC.o _ HB.o;go_wp2_with fail;refine (KAll.o _ HB.o).mono ?_;rintro e w2 ⟨rfl,hb⟩;have HB1:=Hd (HB.o.trans (hb.mono HB.o.size));clear hb;clear x0 x1 x2 x3 x4 x5;obtain⟨x0,x1,x2,x3,x4,x5⟩:=HXC.o _ HB1.o;go_wp2_with fail;refine (KPl.o _).mono ?_;rintro e w3 ⟨rfl,hb⟩;have hA:=Hd (HB1.o.trans (hb.mono HB1.o.size));clear hb;clear x0 x1 x2 x3 x4 x5;obtain⟨x0,x1,x2,x3,x4,x5⟩:=HXC.o _ hA.o;go_wp2_with fail;refine (KOb.o _ hA.o).mono ?_;rintro e w4 ⟨rfl,hb⟩;have hG:=Hd (hA.o.trans (hb.mono hA.o.size));clear hb;clear x0 x1 x2 x3 x4 x5;obtain⟨x0,x1,x2,x3,x4,x5⟩:=HXC.o _ hG.o;go_wp2_with fail;go_ret
 exact⟨by rw[hB.o];rfl,HBZ.o.trans (hG.o.mono HBZ.o.size)⟩
theorem V0 (k:Int) (hk:k=16\/k=22) (t:Z8) (n:Int) (ps:List Ty) (fs:Bv) (vs:Bw) (hp:∀p∈ps,Aj p) (hf:∀f∈fs,Aj f.2.2) (hv:∀v∈vs,∀b∈v.2,Aj b) (hE:fs.length=0) (hF:vs.length=0) (hC:ps.all Ai=true) (hB:Ca t=false):Aj (.mk k t n ps fs vs):=by
 refine Bc k t n ps fs vs hp hf hv fun K w A c A' c' A'' c'' w1 h=>?_;obtain⟨HXC,KAll,KPl,KNm,KOb,KBi,KOv,HREP,HCN,HBZ,HB,HS1,HX0,HW1,hlp,hlf,hlv⟩:=h;clear hp hf hv;have hs:Ak k=⟨true,false,false,false,0,0,true⟩:=by rcases hk with rfl|rfl <;> rfl
 have hA:Z9 (Ai (.mk k t n ps fs vs)=false):=Hd (by
  rcases hk with rfl|rfl
  all_goals (
   rw[Aw,hs,hC];unfold Ar Bq;simp[hE,hF,hB]))
 obtain⟨f1,f2,f3,f4⟩:=Gl (m:=fs.length) (n:=vs.length) (by omega) (by omega);rw[hC]at KAll;rw[hB]at KNm;clear hE hF hC hB;clear hs;rcases hk with rfl|rfl
 all_goals (
  go_enter Tryz.func38,Tryz.ntmps38;go_upto_region 1 with fail
  rw[<-HW1.o];obtain⟨x0,x1,x2,x3,x4,x5⟩:=HXC.o _ HB.o;go_wp2_with fail;refine (KAll.o _ HB.o).mono ?_;rintro e w2 ⟨rfl,hb⟩;have HB1:=Hd (HB.o.trans (hb.mono HB.o.size));clear hb;clear x0 x1 x2 x3 x4 x5;obtain⟨x0,x1,x2,x3,x4,x5⟩:=HXC.o _ HB1.o;go_wp2_with fail;refine (KNm.o _).mono ?_;rintro e w3 ⟨rfl,hb⟩;have hD:=Hd (HB1.o.trans (hb.mono HB1.o.size));clear hb;clear x0 x1 x2 x3 x4 x5;obtain⟨x0,x1,x2,x3,x4,x5⟩:=HXC.o _ hD.o;go_wp2_with fail;go_ret
  exact⟨by rw[hA.o];rfl,HBZ.o.trans (hD.o.mono HBZ.o.size)⟩)
theorem V1 (k:Int) (hk:k=16\/k=22) (t:Z8) (n:Int) (ps:List Ty) (fs:Bv) (vs:Bw) (hp:∀p∈ps,Aj p) (hf:∀f∈fs,Aj f.2.2) (hv:∀v∈vs,∀b∈v.2,Aj b) (hF:fs.length=0) (hG:vs.length=0) (hD:ps.all Ai=true) (hC:Ca t=true) (hB:n≠0):Aj (.mk k t n ps fs vs):=by
 refine Bc k t n ps fs vs hp hf hv fun K w A c A' c' A'' c'' w1 h=>?_;obtain⟨HXC,KAll,KPl,KNm,KOb,KBi,KOv,HREP,HCN,HBZ,HB,HS1,HX0,HW1,hlp,hlf,hlv⟩:=h;clear hp hf hv;have hs:Ak k=⟨true,false,false,false,0,0,true⟩:=by rcases hk with rfl|rfl <;> rfl
 have hA:Z9 (Ai (.mk k t n ps fs vs)=false):=Hd (by
  rcases hk with rfl|rfl
  all_goals (
   rw[Aw,hs,hD];unfold Ar Bq;simp[hF,hG,hC,hB]))
 obtain⟨f1,f2,f3,f4⟩:=Gl (m:=fs.length) (n:=vs.length) (by omega) (by omega);rw[hD]at KAll;rw[hC]at KNm;have f5:(n == 0)=false:=by simpa using hB
 clear hF hG hB hD hC;clear hs;rcases hk with rfl|rfl
 all_goals (
  go_enter Tryz.func38,Tryz.ntmps38;go_upto_region 1 with fail
  rw[<-HW1.o];obtain⟨x0,x1,x2,x3,x4,x5⟩:=HXC.o _ HB.o;go_wp2_with fail;refine (KAll.o _ HB.o).mono ?_;rintro e w2 ⟨rfl,hb⟩;have HB1:=Hd (HB.o.trans (hb.mono HB.o.size));clear hb;clear x0 x1 x2 x3 x4 x5;obtain⟨x0,x1,x2,x3,x4,x5⟩:=HXC.o _ HB1.o;go_wp2_with fail;refine (KNm.o _).mono ?_;rintro e w3 ⟨rfl,hb⟩;have hE:=Hd (HB1.o.trans (hb.mono HB1.o.size));clear hb;clear x0 x1 x2 x3 x4 x5;obtain⟨x0,x1,x2,x3,x4,x5⟩:=HXC.o _ hE.o;go_wp2_with fail;go_ret
  exact⟨by rw[hA.o];rfl,HBZ.o.trans (hE.o.mono HBZ.o.size)⟩)
theorem V2 (k:Int) (hk:k=16\/k=22) (t:Z8) (n:Int) (ps:List Ty) (fs:Bv) (vs:Bw) (hp:∀p∈ps,Aj p) (hf:∀f∈fs,Aj f.2.2) (hv:∀v∈vs,∀b∈v.2,Aj b) (hF:fs.length=0) (hH:vs.length=0) (hD:ps.all Ai=true) (hC:Ca t=true) (hB:n=0) (hG:ps.length≠0):Aj (.mk k t n ps fs vs):=by
 refine Bc k t n ps fs vs hp hf hv fun K w A c A' c' A'' c'' w1 h=>?_;obtain⟨HXC,KAll,KPl,KNm,KOb,KBi,KOv,HREP,HCN,HBZ,HB,HS1,HX0,HW1,hlp,hlf,hlv⟩:=h;clear hp hf hv;have hs:Ak k=⟨true,false,false,false,0,0,true⟩:=by rcases hk with rfl|rfl <;> rfl
 have hA:Z9 (Ai (.mk k t n ps fs vs)=false):=Hd (by
  rcases hk with rfl|rfl
  all_goals (
   rw[Aw,hs,hD];unfold Ar Bq;simp[hF,hH,hC,hB];exact fun h=>hG (by rw[h];rfl)))
 obtain⟨f1,f2,f3,f4⟩:=Gl (m:=fs.length) (n:=vs.length) (by omega) (by omega);rw[hD]at KAll;rw[hC]at KNm;have f5:(n == 0)=true:=by simpa using hB
 have p1:((ps.length:Int) == 0)=false:=beq_eq_false_iff_ne.2 (by omega);have p2:(ps.length == 0)=false:=beq_eq_false_iff_ne.2 (by omega);have p3:decide (ps.length=0)=false:=decide_eq_false (by omega);have p4:decide ((ps.length:Int)=0)=false:=decide_eq_false (by omega);clear hF hH hG hB hD hC;clear hs;rcases hk with rfl|rfl
 all_goals (
  go_enter Tryz.func38,Tryz.ntmps38;go_upto_region 1 with fail
  rw[<-HW1.o];obtain⟨x0,x1,x2,x3,x4,x5⟩:=HXC.o _ HB.o;go_wp2_with fail;refine (KAll.o _ HB.o).mono ?_;rintro e w2 ⟨rfl,hb⟩;have HB1:=Hd (HB.o.trans (hb.mono HB.o.size));clear hb;clear x0 x1 x2 x3 x4 x5;obtain⟨x0,x1,x2,x3,x4,x5⟩:=HXC.o _ HB1.o;go_wp2_with fail;refine (KNm.o _).mono ?_;rintro e w3 ⟨rfl,hb⟩;have hE:=Hd (HB1.o.trans (hb.mono HB1.o.size));clear hb;clear x0 x1 x2 x3 x4 x5;obtain⟨x0,x1,x2,x3,x4,x5⟩:=HXC.o _ hE.o;go_wp2_with fail;go_ret
  exact⟨by rw[hA.o];rfl,HBZ.o.trans (hE.o.mono HBZ.o.size)⟩)
theorem V3 (k:Int) (hk:k=16\/k=22) (t:Z8) (n:Int) (ps:List Ty) (fs:Bv) (vs:Bw) (hp:∀p∈ps,Aj p) (hf:∀f∈fs,Aj f.2.2) (hv:∀v∈vs,∀b∈v.2,Aj b) (hF:fs.length=0) (hH:vs.length=0) (hD:ps.all Ai=true) (hC:Ca t=true) (hB:n=0) (hG:ps.length=0):Aj (.mk k t n ps fs vs):=by
 refine Bc k t n ps fs vs hp hf hv fun K w A c A' c' A'' c'' w1 h=>?_;obtain⟨HXC,KAll,KPl,KNm,KOb,KBi,KOv,HREP,HCN,HBZ,HB,HS1,HX0,HW1,hlp,hlf,hlv⟩:=h;clear hp hf hv;have hs:Ak k=⟨true,false,false,false,0,0,true⟩:=by rcases hk with rfl|rfl <;> rfl
 have hA:Z9 (Ai (.mk k t n ps fs vs)=true):=Hd (by
  rcases hk with rfl|rfl
  all_goals (
   rw[Aw,hs,hD];unfold Ar Bq;simp[hF,hH,hC,hB,hG]))
 obtain⟨f1,f2,f3,f4⟩:=Gl (m:=fs.length) (n:=vs.length) (by omega) (by omega);rw[hD]at KAll;rw[hC]at KNm;have f5:(n == 0)=true:=by simpa using hB
 have p1:((ps.length:Int) == 0)=true:=beq_iff_eq.2 (by omega);have p2:(ps.length == 0)=true:=beq_iff_eq.2 (by omega);have p3:decide (ps.length=0)=true:=decide_eq_true (by omega);have p4:decide ((ps.length:Int)=0)=true:=decide_eq_true (by omega);clear hF hH hG hB hD hC;clear hs;rcases hk with rfl|rfl
 all_goals (
  go_enter Tryz.func38,Tryz.ntmps38;go_upto_region 1 with fail
  rw[<-HW1.o];obtain⟨x0,x1,x2,x3,x4,x5⟩:=HXC.o _ HB.o;go_wp2_with fail;refine (KAll.o _ HB.o).mono ?_;rintro e w2 ⟨rfl,hb⟩;have HB1:=Hd (HB.o.trans (hb.mono HB.o.size));clear hb;clear x0 x1 x2 x3 x4 x5;obtain⟨x0,x1,x2,x3,x4,x5⟩:=HXC.o _ HB1.o;go_wp2_with fail;refine (KNm.o _).mono ?_;rintro e w3 ⟨rfl,hb⟩;have hE:=Hd (HB1.o.trans (hb.mono HB1.o.size));clear hb;clear x0 x1 x2 x3 x4 x5;obtain⟨x0,x1,x2,x3,x4,x5⟩:=HXC.o _ hE.o;go_wp2_with fail;go_ret
  exact⟨by rw[hA.o];rfl,HBZ.o.trans (hE.o.mono HBZ.o.size)⟩)
theorem Jae (t:Z8) (n:Int) (ps:List Ty) (fs:Bv) (vs:Bw) (hp:∀p∈ps,Aj p) (hf:∀f∈fs,Aj f.2.2) (hv:∀v∈vs,∀b∈v.2,Aj b) (hE:fs.length=0) (hF:vs.length=0) (hC:ps.all Ai=true) (hB:Ca t=false):Aj (.mk 17 t n ps fs vs):=by
 refine Bc 17 t n ps fs vs hp hf hv fun K w A c A' c' A'' c'' w1 h=>?_;obtain⟨HXC,KAll,KPl,KNm,KOb,KBi,KOv,HREP,HCN,HBZ,HB,HS1,HX0,HW1,hlp,hlf,hlv⟩:=h;clear hp hf hv;have hA:Z9 (Ai (.mk 17 t n ps fs vs)=false):=Hd (by
  rw[Aw,show Ak 17=⟨true,false,false,false,0,-1,true⟩ from rfl,hC];unfold Ar Bq;simp[hE,hF,hB])
 obtain⟨f1,f2,f3,f4⟩:=Gl (m:=fs.length) (n:=vs.length) (by omega) (by omega);rw[hC]at KAll;rw[hB]at KNm;clear hE hF hC hB;go_enter Tryz.func38,Tryz.ntmps38;go_upto_region 1 with fail
 rw[<-HW1.o];obtain⟨x0,x1,x2,x3,x4,x5⟩:=HXC.o _ HB.o;go_wp2_with fail;refine (KAll.o _ HB.o).mono ?_;rintro e w2 ⟨rfl,hb⟩;have HB1:=Hd (HB.o.trans (hb.mono HB.o.size));clear hb;clear x0 x1 x2 x3 x4 x5;obtain⟨x0,x1,x2,x3,x4,x5⟩:=HXC.o _ HB1.o;go_wp2_with fail;refine (KNm.o _).mono ?_;rintro e w3 ⟨rfl,hb⟩;have hD:=Hd (HB1.o.trans (hb.mono HB1.o.size));clear hb;clear x0 x1 x2 x3 x4 x5;obtain⟨x0,x1,x2,x3,x4,x5⟩:=HXC.o _ hD.o;go_wp2_with fail;go_ret
 exact⟨by rw[hA.o];rfl,HBZ.o.trans (hD.o.mono HBZ.o.size)⟩
theorem Jaf (t:Z8) (n:Int) (ps:List Ty) (fs:Bv) (vs:Bw) (hp:∀p∈ps,Aj p) (hf:∀f∈fs,Aj f.2.2) (hv:∀v∈vs,∀b∈v.2,Aj b) (hF:fs.length=0) (hG:vs.length=0) (hD:ps.all Ai=true) (hC:Ca t=true) (hB:n≠0):Aj (.mk 17 t n ps fs vs):=by
 refine Bc 17 t n ps fs vs hp hf hv fun K w A c A' c' A'' c'' w1 h=>?_;obtain⟨HXC,KAll,KPl,KNm,KOb,KBi,KOv,HREP,HCN,HBZ,HB,HS1,HX0,HW1,hlp,hlf,hlv⟩:=h;clear hp hf hv;have hA:Z9 (Ai (.mk 17 t n ps fs vs)=false):=Hd (by
  rw[Aw,show Ak 17=⟨true,false,false,false,0,-1,true⟩ from rfl,hD];unfold Ar Bq;simp[hF,hG,hC,hB])
 obtain⟨f1,f2,f3,f4⟩:=Gl (m:=fs.length) (n:=vs.length) (by omega) (by omega);rw[hD]at KAll;rw[hC]at KNm;have f5:(n == 0)=false:=by simpa using hB
 clear hF hG hB hD hC;go_enter Tryz.func38,Tryz.ntmps38;go_upto_region 1 with fail
 rw[<-HW1.o];obtain⟨x0,x1,x2,x3,x4,x5⟩:=HXC.o _ HB.o;go_wp2_with fail;refine (KAll.o _ HB.o).mono ?_;rintro e w2 ⟨rfl,hb⟩;have HB1:=Hd (HB.o.trans (hb.mono HB.o.size));clear hb;clear x0 x1 x2 x3 x4 x5;obtain⟨x0,x1,x2,x3,x4,x5⟩:=HXC.o _ HB1.o;go_wp2_with fail;refine (KNm.o _).mono ?_;rintro e w3 ⟨rfl,hb⟩;have hE:=Hd (HB1.o.trans (hb.mono HB1.o.size));clear hb;clear x0 x1 x2 x3 x4 x5;obtain⟨x0,x1,x2,x3,x4,x5⟩:=HXC.o _ hE.o;go_wp2_with fail;go_ret
 exact⟨by rw[hA.o];rfl,HBZ.o.trans (hE.o.mono HBZ.o.size)⟩
theorem Jag (t:Z8) (n:Int) (ps:List Ty) (fs:Bv) (vs:Bw) (hp:∀p∈ps,Aj p) (hf:∀f∈fs,Aj f.2.2) (hv:∀v∈vs,∀b∈v.2,Aj b) (hF:fs.length=0) (hG:vs.length=0) (hD:ps.all Ai=true) (hC:Ca t=true) (hB:n=0):Aj (.mk 17 t n ps fs vs):=by
 refine Bc 17 t n ps fs vs hp hf hv fun K w A c A' c' A'' c'' w1 h=>?_;obtain⟨HXC,KAll,KPl,KNm,KOb,KBi,KOv,HREP,HCN,HBZ,HB,HS1,HX0,HW1,hlp,hlf,hlv⟩:=h;clear hp hf hv;have hA:Z9 (Ai (.mk 17 t n ps fs vs)=true):=Hd (by
  rw[Aw,show Ak 17=⟨true,false,false,false,0,-1,true⟩ from rfl,hD];unfold Ar Bq;simp[hF,hG,hC,hB])
 obtain⟨f1,f2,f3,f4⟩:=Gl (m:=fs.length) (n:=vs.length) (by omega) (by omega);rw[hD]at KAll;rw[hC]at KNm;have f5:(n == 0)=true:=by simpa using hB
 clear hF hG hB hD hC;go_enter Tryz.func38,Tryz.ntmps38;go_upto_region 1 with fail
 rw[<-HW1.o];obtain⟨x0,x1,x2,x3,x4,x5⟩:=HXC.o _ HB.o;go_wp2_with fail;refine (KAll.o _ HB.o).mono ?_;rintro e w2 ⟨rfl,hb⟩;have HB1:=Hd (HB.o.trans (hb.mono HB.o.size));clear hb;clear x0 x1 x2 x3 x4 x5;obtain⟨x0,x1,x2,x3,x4,x5⟩:=HXC.o _ HB1.o;go_wp2_with fail;refine (KNm.o _).mono ?_;rintro e w3 ⟨rfl,hb⟩;have hE:=Hd (HB1.o.trans (hb.mono HB1.o.size));clear hb;clear x0 x1 x2 x3 x4 x5;obtain⟨x0,x1,x2,x3,x4,x5⟩:=HXC.o _ hE.o;go_wp2_with fail;go_ret
 exact⟨by rw[hA.o];rfl,HBZ.o.trans (hE.o.mono HBZ.o.size)⟩
theorem Jaj (t:Z8) (n:Int) (ps:List Ty) (fs:Bv) (vs:Bw) (hp:∀p∈ps,Aj p) (hf:∀f∈fs,Aj f.2.2) (hv:∀v∈vs,∀b∈v.2,Aj b) (hE:fs.length=0) (hF:vs.length=0) (hB:ps.all Ai=true) (a0:UInt8) (l0:List UInt8) (hC:t.toList=a0 :: l0):Aj (.mk 19 t n ps fs vs):=by
 refine Bc 19 t n ps fs vs hp hf hv fun K w A c A' c' A'' c'' w1 h=>?_;obtain⟨HXC,KAll,KPl,KNm,KOb,KBi,KOv,HREP,HCN,HBZ,HB,HS1,HX0,HW1,hlp,hlf,hlv⟩:=h;clear hp hf hv;have hA:Z9 (Ai (.mk 19 t n ps fs vs)=false):=Hd (by
  rw[Aw,show Ak 19=⟨false,false,false,false,2,2,true⟩ from rfl,hB];unfold Ar Bq;simp[hE,hF,hC])
 obtain⟨f1,f2,f3,f4⟩:=Gl (m:=fs.length) (n:=vs.length) (by omega) (by omega);rw[hB]at KAll;have ep:(t.toList == [] && n == 0)=false:=by rw[hC];rfl
 rw[ep]at KPl;clear hE hF hB hC;go_enter Tryz.func38,Tryz.ntmps38;go_upto_region 1 with fail
 rw[<-HW1.o];obtain⟨x0,x1,x2,x3,x4,x5⟩:=HXC.o _ HB.o;go_wp2_with fail;refine (KAll.o _ HB.o).mono ?_;rintro e w2 ⟨rfl,hb⟩;have HB1:=Hd (HB.o.trans (hb.mono HB.o.size));clear hb;clear x0 x1 x2 x3 x4 x5;obtain⟨x0,x1,x2,x3,x4,x5⟩:=HXC.o _ HB1.o;go_wp2_with fail;refine (KPl.o _).mono ?_;rintro e w3 ⟨rfl,hb⟩;have hD:=Hd (HB1.o.trans (hb.mono HB1.o.size));clear hb;clear x0 x1 x2 x3 x4 x5;obtain⟨x0,x1,x2,x3,x4,x5⟩:=HXC.o _ hD.o;go_wp2_with fail;go_ret
 exact⟨by rw[hA.o];rfl,HBZ.o.trans (hD.o.mono HBZ.o.size)⟩
theorem Jah (t:Z8) (n:Int) (ps:List Ty) (fs:Bv) (vs:Bw) (hp:∀p∈ps,Aj p) (hf:∀f∈fs,Aj f.2.2) (hv:∀v∈vs,∀b∈v.2,Aj b) (hF:fs.length=0) (hG:vs.length=0) (hC:ps.all Ai=true) (hD:t.toList=[]) (hB:n≠0):Aj (.mk 19 t n ps fs vs):=by
 refine Bc 19 t n ps fs vs hp hf hv fun K w A c A' c' A'' c'' w1 h=>?_;obtain⟨HXC,KAll,KPl,KNm,KOb,KBi,KOv,HREP,HCN,HBZ,HB,HS1,HX0,HW1,hlp,hlf,hlv⟩:=h;clear hp hf hv;have hA:Z9 (Ai (.mk 19 t n ps fs vs)=false):=Hd (by
  rw[Aw,show Ak 19=⟨false,false,false,false,2,2,true⟩ from rfl,hC];unfold Ar Bq;simp[hF,hG,hD,hB])
 obtain⟨f1,f2,f3,f4⟩:=Gl (m:=fs.length) (n:=vs.length) (by omega) (by omega);rw[hC]at KAll;have ep:(t.toList == [] && n == 0)=false:=by rw[hD];simpa using hB
 rw[ep]at KPl;clear hF hG hB hC hD;go_enter Tryz.func38,Tryz.ntmps38;go_upto_region 1 with fail
 rw[<-HW1.o];obtain⟨x0,x1,x2,x3,x4,x5⟩:=HXC.o _ HB.o;go_wp2_with fail;refine (KAll.o _ HB.o).mono ?_;rintro e w2 ⟨rfl,hb⟩;have HB1:=Hd (HB.o.trans (hb.mono HB.o.size));clear hb;clear x0 x1 x2 x3 x4 x5;obtain⟨x0,x1,x2,x3,x4,x5⟩:=HXC.o _ HB1.o;go_wp2_with fail;refine (KPl.o _).mono ?_;rintro e w3 ⟨rfl,hb⟩;have hE:=Hd (HB1.o.trans (hb.mono HB1.o.size));clear hb;clear x0 x1 x2 x3 x4 x5;obtain⟨x0,x1,x2,x3,x4,x5⟩:=HXC.o _ hE.o;go_wp2_with fail;go_ret
 exact⟨by rw[hA.o];rfl,HBZ.o.trans (hE.o.mono HBZ.o.size)⟩
theorem Jai (t:Z8) (n:Int) (ps:List Ty) (fs:Bv) (vs:Bw) (hp:∀p∈ps,Aj p) (hf:∀f∈fs,Aj f.2.2) (hv:∀v∈vs,∀b∈v.2,Aj b) (hF:fs.length=0) (hG:vs.length=0) (hC:ps.all Ai=true) (hD:t.toList=[]) (hB:n=0) (hH:ps.length≠2):Aj (.mk 19 t n ps fs vs):=by
 refine Bc 19 t n ps fs vs hp hf hv fun K w A c A' c' A'' c'' w1 h=>?_;obtain⟨HXC,KAll,KPl,KNm,KOb,KBi,KOv,HREP,HCN,HBZ,HB,HS1,HX0,HW1,hlp,hlf,hlv⟩:=h;clear hp hf hv;have hA:Z9 (Ai (.mk 19 t n ps fs vs)=false):=Hd (by
  rw[Aw,show Ak 19=⟨false,false,false,false,2,2,true⟩ from rfl,hC];unfold Ar Bq;simp[hF,hG,hD,hB];omega)
 obtain⟨f1,f2,f3,f4⟩:=Gl (m:=fs.length) (n:=vs.length) (by omega) (by omega);rw[hC]at KAll;have ep:(t.toList == [] && n == 0)=true:=by rw[hD,hB];rfl
 rw[ep]at KPl;have p1:((ps.length:Int) == 2)=false:=beq_eq_false_iff_ne.2 (by omega);have p2:(ps.length == 2)=false:=beq_eq_false_iff_ne.2 (by omega);have p3:decide (ps.length=2)=false:=decide_eq_false (by omega);have p4:decide ((ps.length:Int)=2)=false:=decide_eq_false (by omega);clear hF hG hH hB hC hD;go_enter Tryz.func38,Tryz.ntmps38;go_upto_region 1 with fail
 rw[<-HW1.o];obtain⟨x0,x1,x2,x3,x4,x5⟩:=HXC.o _ HB.o;go_wp2_with fail;refine (KAll.o _ HB.o).mono ?_;rintro e w2 ⟨rfl,hb⟩;have HB1:=Hd (HB.o.trans (hb.mono HB.o.size));clear hb;clear x0 x1 x2 x3 x4 x5;obtain⟨x0,x1,x2,x3,x4,x5⟩:=HXC.o _ HB1.o;go_wp2_with fail;refine (KPl.o _).mono ?_;rintro e w3 ⟨rfl,hb⟩;have hE:=Hd (HB1.o.trans (hb.mono HB1.o.size));clear hb;clear x0 x1 x2 x3 x4 x5;obtain⟨x0,x1,x2,x3,x4,x5⟩:=HXC.o _ hE.o;go_wp2_with fail;go_ret
 exact⟨by rw[hA.o];rfl,HBZ.o.trans (hE.o.mono HBZ.o.size)⟩
theorem Jak (t:Z8) (n:Int) (ps:List Ty) (fs:Bv) (vs:Bw) (hp:∀p∈ps,Aj p) (hf:∀f∈fs,Aj f.2.2) (hv:∀v∈vs,∀b∈v.2,Aj b) (hF:fs.length=0) (hH:vs.length=0) (hC:ps.all Ai=true) (hD:t.toList=[]) (hB:n=0) (hG:ps.length=2):Aj (.mk 19 t n ps fs vs):=by
 refine Bc 19 t n ps fs vs hp hf hv fun K w A c A' c' A'' c'' w1 h=>?_;obtain⟨HXC,KAll,KPl,KNm,KOb,KBi,KOv,HREP,HCN,HBZ,HB,HS1,HX0,HW1,hlp,hlf,hlv⟩:=h;clear hp hf hv;have hA:Z9 (Ai (.mk 19 t n ps fs vs)=true):=Hd (by
  rw[Aw,show Ak 19=⟨false,false,false,false,2,2,true⟩ from rfl,hC];unfold Ar Bq;simp[hF,hH,hD,hB,hG])
 obtain⟨f1,f2,f3,f4⟩:=Gl (m:=fs.length) (n:=vs.length) (by omega) (by omega);rw[hC]at KAll;have ep:(t.toList == [] && n == 0)=true:=by rw[hD,hB];rfl
 rw[ep]at KPl;have p1:((ps.length:Int) == 2)=true:=beq_iff_eq.2 (by omega);have p2:(ps.length == 2)=true:=beq_iff_eq.2 (by omega);have p3:decide (ps.length=2)=true:=decide_eq_true (by omega);have p4:decide ((ps.length:Int)=2)=true:=decide_eq_true (by omega);clear hF hH hG hB hC hD;go_enter Tryz.func38,Tryz.ntmps38;go_upto_region 1 with fail
 rw[<-HW1.o];obtain⟨x0,x1,x2,x3,x4,x5⟩:=HXC.o _ HB.o;go_wp2_with fail;refine (KAll.o _ HB.o).mono ?_;rintro e w2 ⟨rfl,hb⟩;have HB1:=Hd (HB.o.trans (hb.mono HB.o.size));clear hb;clear x0 x1 x2 x3 x4 x5;obtain⟨x0,x1,x2,x3,x4,x5⟩:=HXC.o _ HB1.o;go_wp2_with fail;refine (KPl.o _).mono ?_;rintro e w3 ⟨rfl,hb⟩;have hE:=Hd (HB1.o.trans (hb.mono HB1.o.size));clear hb;clear x0 x1 x2 x3 x4 x5;obtain⟨x0,x1,x2,x3,x4,x5⟩:=HXC.o _ hE.o;go_wp2_with fail;go_ret
 exact⟨by rw[hA.o];rfl,HBZ.o.trans (hE.o.mono HBZ.o.size)⟩
