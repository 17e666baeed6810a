import Derived.Test.YtlpfpehegddcfaaGreatDoorMv22
namespace Go.Proofs.YtlpfpehegddcfaaGreatDoor
set_option maxRecDepth 100000
set_option maxHeartbeats 64000000
open Go.RowKit
theorem Jck (k:Int) (hk:k=1\/k=2\/k=3\/k=4\/k=5\/k=6\/k=7\/k=8) (t:ByteArray) (n:Int) (ps:List Ty) (fs:Bp) (vs:Bm) (hp:∀ p∈ps,Ad p) (hf:∀ f∈fs,Ad f.2.2) (hv:∀ v∈vs,∀ b∈v.2,Ad b) (hnf:fs.length=0) (hnv:vs.length=0) (hpa:ps.all Ab=true) (a0:UInt8) (l0:List UInt8) (ht0:t.toList=a0 :: l0):Ad (.mk k t n ps fs vs):=by
 refine At k t n ps fs vs hp hf hv fun K w A c A' c' A'' c'' w1 h=>?_;obtain⟨HXC,KAll,KPl,KNm,KOb,KBi,KOv,HREP,HCN,HBZ,HB,HS1,HX0,HW1,hlp,hlf,hlv⟩:=h;clear hp hf hv;have hs:Ae k=⟨false,false,false,false,0,0,true⟩:=by rcases hk with rfl | rfl | rfl | rfl | rfl | rfl | rfl | rfl <;> rfl
 have HVal:Hid (Ab (.mk k t n ps fs vs)=false):=Hd (by
  rcases hk with rfl | rfl | rfl | rfl | rfl | rfl | rfl | rfl
  all_goals (
   rw[Am,hs,hpa];unfold Aj Bh;simp[hnf,hnv,ht0]))
 obtain⟨f1,f2,f3,f4⟩:=Fw (m:=fs.length) (n:=vs.length) (by omega) (by omega);rw[hpa] at KAll;have ep:(t.toList == [] && n == 0)=false:=by rw[ht0];rfl
 rw[ep] at KPl;clear hnf hnv hpa ht0;clear hs;rcases hk with rfl | rfl | rfl | rfl | rfl | rfl | rfl | rfl
 all_goals (
  go_enter Tryz.func38,Tryz.ntmps38;go_upto_region 1 with fail
  rw[<-HW1.out];obtain⟨x0,x1,x2,x3,x4,x5⟩:=HXC.out _ HB.out;go_wp2_with fail;refine (KAll.out _ HB.out).mono ?_;rintro e w2 ⟨rfl,hb⟩;have HB1:=Hd (HB.out.trans (hb.mono HB.out.size));clear hb;clear x0 x1 x2 x3 x4 x5;obtain⟨x0,x1,x2,x3,x4,x5⟩:=HXC.out _ HB1.out;go_wp2_with fail;refine (KPl.out _).mono ?_;rintro e w3 ⟨rfl,hb⟩;have HB2:=Hd (HB1.out.trans (hb.mono HB1.out.size));clear hb;clear x0 x1 x2 x3 x4 x5;obtain⟨x0,x1,x2,x3,x4,x5⟩:=HXC.out _ HB2.out;go_wp2_with fail;go_ret
  exact⟨by rw[HVal.out];rfl,HBZ.out.trans (HB2.out.mono HBZ.out.size)⟩)
theorem Jci (k:Int) (hk:k=1\/k=2\/k=3\/k=4\/k=5\/k=6\/k=7\/k=8) (t:ByteArray) (n:Int) (ps:List Ty) (fs:Bp) (vs:Bm) (hp:∀ p∈ps,Ad p) (hf:∀ f∈fs,Ad f.2.2) (hv:∀ v∈vs,∀ b∈v.2,Ad b) (hnf:fs.length=0) (hnv:vs.length=0) (hpa:ps.all Ab=true) (ht0:t.toList=[]) (hn0:n≠0):Ad (.mk k t n ps fs vs):=by
 refine At k t n ps fs vs hp hf hv fun K w A c A' c' A'' c'' w1 h=>?_;obtain⟨HXC,KAll,KPl,KNm,KOb,KBi,KOv,HREP,HCN,HBZ,HB,HS1,HX0,HW1,hlp,hlf,hlv⟩:=h;clear hp hf hv;have hs:Ae k=⟨false,false,false,false,0,0,true⟩:=by rcases hk with rfl | rfl | rfl | rfl | rfl | rfl | rfl | rfl <;> rfl
 have HVal:Hid (Ab (.mk k t n ps fs vs)=false):=Hd (by
  rcases hk with rfl | rfl | rfl | rfl | rfl | rfl | rfl | rfl
  all_goals (
   rw[Am,hs,hpa];unfold Aj Bh;simp[hnf,hnv,ht0,hn0]))
 obtain⟨f1,f2,f3,f4⟩:=Fw (m:=fs.length) (n:=vs.length) (by omega) (by omega);rw[hpa] at KAll;have ep:(t.toList == [] && n == 0)=false:=by rw[ht0];simpa using hn0
 rw[ep] at KPl;clear hnf hnv hn0 hpa ht0;clear hs;rcases hk with rfl | rfl | rfl | rfl | rfl | rfl | rfl | rfl
 all_goals (
  go_enter Tryz.func38,Tryz.ntmps38;go_upto_region 1 with fail
  rw[<-HW1.out];obtain⟨x0,x1,x2,x3,x4,x5⟩:=HXC.out _ HB.out;go_wp2_with fail;refine (KAll.out _ HB.out).mono ?_;rintro e w2 ⟨rfl,hb⟩;have HB1:=Hd (HB.out.trans (hb.mono HB.out.size));clear hb;clear x0 x1 x2 x3 x4 x5;obtain⟨x0,x1,x2,x3,x4,x5⟩:=HXC.out _ HB1.out;go_wp2_with fail;refine (KPl.out _).mono ?_;rintro e w3 ⟨rfl,hb⟩;have HB2:=Hd (HB1.out.trans (hb.mono HB1.out.size));clear hb;clear x0 x1 x2 x3 x4 x5;obtain⟨x0,x1,x2,x3,x4,x5⟩:=HXC.out _ HB2.out;go_wp2_with fail;go_ret
  exact⟨by rw[HVal.out];rfl,HBZ.out.trans (HB2.out.mono HBZ.out.size)⟩)
theorem Jcj (k:Int) (hk:k=1\/k=2\/k=3\/k=4\/k=5\/k=6\/k=7\/k=8) (t:ByteArray) (n:Int) (ps:List Ty) (fs:Bp) (vs:Bm) (hp:∀ p∈ps,Ad p) (hf:∀ f∈fs,Ad f.2.2) (hv:∀ v∈vs,∀ b∈v.2,Ad b) (hnf:fs.length=0) (hnv:vs.length=0) (hpa:ps.all Ab=true) (ht0:t.toList=[]) (hn0:n=0) (hnp:ps.length≠0):Ad (.mk k t n ps fs vs):=by
 refine At k t n ps fs vs hp hf hv fun K w A c A' c' A'' c'' w1 h=>?_;obtain⟨HXC,KAll,KPl,KNm,KOb,KBi,KOv,HREP,HCN,HBZ,HB,HS1,HX0,HW1,hlp,hlf,hlv⟩:=h;clear hp hf hv;have hs:Ae k=⟨false,false,false,false,0,0,true⟩:=by rcases hk with rfl | rfl | rfl | rfl | rfl | rfl | rfl | rfl <;> rfl
 have HVal:Hid (Ab (.mk k t n ps fs vs)=false):=Hd (by
  rcases hk with rfl | rfl | rfl | rfl | rfl | rfl | rfl | rfl
  all_goals (
   rw[Am,hs,hpa];unfold Aj Bh;simp[hnf,hnv,ht0,hn0];exact fun h=>hnp (by rw[h];rfl)))
 obtain⟨f1,f2,f3,f4⟩:=Fw (m:=fs.length) (n:=vs.length) (by omega) (by omega);rw[hpa] at KAll;have ep:(t.toList == [] && n == 0)=true:=by rw[ht0,hn0];rfl
 rw[ep] at KPl;have p1:((ps.length:Int) == 0)=false:=beq_eq_false_iff_ne.2 (by omega);have p2:(ps.length == 0)=false:=beq_eq_false_iff_ne.2 (by omega);have p3:decide (ps.length=0)=false:=decide_eq_false (by omega);have p4:decide ((ps.length:Int)=0)=false:=decide_eq_false (by omega);clear hnf hnv hnp hn0 hpa ht0;clear hs;rcases hk with rfl | rfl | rfl | rfl | rfl | rfl | rfl | rfl
 all_goals (
  go_enter Tryz.func38,Tryz.ntmps38;go_upto_region 1 with fail
  rw[<-HW1.out];obtain⟨x0,x1,x2,x3,x4,x5⟩:=HXC.out _ HB.out;go_wp2_with fail;refine (KAll.out _ HB.out).mono ?_;rintro e w2 ⟨rfl,hb⟩;have HB1:=Hd (HB.out.trans (hb.mono HB.out.size));clear hb;clear x0 x1 x2 x3 x4 x5;obtain⟨x0,x1,x2,x3,x4,x5⟩:=HXC.out _ HB1.out;go_wp2_with fail;refine (KPl.out _).mono ?_;rintro e w3 ⟨rfl,hb⟩;have HB2:=Hd (HB1.out.trans (hb.mono HB1.out.size));clear hb;clear x0 x1 x2 x3 x4 x5;obtain⟨x0,x1,x2,x3,x4,x5⟩:=HXC.out _ HB2.out;go_wp2_with fail;go_ret
  exact⟨by rw[HVal.out];rfl,HBZ.out.trans (HB2.out.mono HBZ.out.size)⟩)
theorem Jcl (k:Int) (hk:k=1\/k=2\/k=3\/k=4\/k=5\/k=6\/k=7\/k=8) (t:ByteArray) (n:Int) (ps:List Ty) (fs:Bp) (vs:Bm) (hp:∀ p∈ps,Ad p) (hf:∀ f∈fs,Ad f.2.2) (hv:∀ v∈vs,∀ b∈v.2,Ad b) (hnf:fs.length=0) (hnv:vs.length=0) (hpa:ps.all Ab=true) (ht0:t.toList=[]) (hn0:n=0) (hnp:ps.length=0):Ad (.mk k t n ps fs vs):=by
 refine At k t n ps fs vs hp hf hv fun K w A c A' c' A'' c'' w1 h=>?_;obtain⟨HXC,KAll,KPl,KNm,KOb,KBi,KOv,HREP,HCN,HBZ,HB,HS1,HX0,HW1,hlp,hlf,hlv⟩:=h;clear hp hf hv;have hs:Ae k=⟨false,false,false,false,0,0,true⟩:=by rcases hk with rfl | rfl | rfl | rfl | rfl | rfl | rfl | rfl <;> rfl
 have HVal:Hid (Ab (.mk k t n ps fs vs)=true):=Hd (by
  rcases hk with rfl | rfl | rfl | rfl | rfl | rfl | rfl | rfl
  all_goals (
   rw[Am,hs,hpa];unfold Aj Bh;simp[hnf,hnv,ht0,hn0,hnp]))
 obtain⟨f1,f2,f3,f4⟩:=Fw (m:=fs.length) (n:=vs.length) (by omega) (by omega);rw[hpa] at KAll;have ep:(t.toList == [] && n == 0)=true:=by rw[ht0,hn0];rfl
 rw[ep] at KPl;have p1:((ps.length:Int) == 0)=true:=beq_iff_eq.2 (by omega);have p2:(ps.length == 0)=true:=beq_iff_eq.2 (by omega);have p3:decide (ps.length=0)=true:=decide_eq_true (by omega);have p4:decide ((ps.length:Int)=0)=true:=decide_eq_true (by omega);clear hnf hnv hnp hn0 hpa ht0;clear hs;rcases hk with rfl | rfl | rfl | rfl | rfl | rfl | rfl | rfl
 all_goals (
  go_enter Tryz.func38,Tryz.ntmps38;go_upto_region 1 with fail
  rw[<-HW1.out];obtain⟨x0,x1,x2,x3,x4,x5⟩:=HXC.out _ HB.out;go_wp2_with fail;refine (KAll.out _ HB.out).mono ?_;rintro e w2 ⟨rfl,hb⟩;have HB1:=Hd (HB.out.trans (hb.mono HB.out.size));clear hb;clear x0 x1 x2 x3 x4 x5;obtain⟨x0,x1,x2,x3,x4,x5⟩:=HXC.out _ HB1.out;go_wp2_with fail;refine (KPl.out _).mono ?_;rintro e w3 ⟨rfl,hb⟩;have HB2:=Hd (HB1.out.trans (hb.mono HB1.out.size));clear hb;clear x0 x1 x2 x3 x4 x5;obtain⟨x0,x1,x2,x3,x4,x5⟩:=HXC.out _ HB2.out;go_wp2_with fail;go_ret
  exact⟨by rw[HVal.out];rfl,HBZ.out.trans (HB2.out.mono HBZ.out.size)⟩)
theorem Jcg (t:ByteArray) (n:Int) (ps:List Ty) (fs:Bp) (vs:Bm) (hp:∀ p∈ps,Ad p) (hf:∀ f∈fs,Ad f.2.2) (hv:∀ v∈vs,∀ b∈v.2,Ad b) (hnf:fs.length=0) (hnv:vs.length=0) (hpa:ps.all Ab=true) (a0:UInt8) (l0:List UInt8) (ht0:t.toList=a0 :: l0):Ad (.mk 9 t n ps fs vs):=by
 refine At 9 t n ps fs vs hp hf hv fun K w A c A' c' A'' c'' w1 h=>?_;obtain⟨HXC,KAll,KPl,KNm,KOb,KBi,KOv,HREP,HCN,HBZ,HB,HS1,HX0,HW1,hlp,hlf,hlv⟩:=h;clear hp hf hv;have HVal:Hid (Ab (.mk 9 t n ps fs vs)=false):=Hd (by
  rw[Am,show Ae 9=⟨false,true,false,false,0,0,true⟩ from rfl,hpa];unfold Aj Bh;simp[hnf,hnv,ht0])
 obtain⟨f1,f2,f3,f4⟩:=Fw (m:=fs.length) (n:=vs.length) (by omega) (by omega);rw[hpa] at KAll;clear hnf hnv hpa;go_enter Tryz.func38,Tryz.ntmps38;go_upto_region 1 with fail
 rw[<-HW1.out];obtain⟨x0,x1,x2,x3,x4,x5⟩:=HXC.out _ HB.out;go_wp2_with fail;refine (KAll.out _ HB.out).mono ?_;rintro e w2 ⟨rfl,hb⟩;have HB1:=Hd (HB.out.trans (hb.mono HB.out.size));clear hb;clear x0 x1 x2 x3 x4 x5;obtain⟨x0,x1,x2,x3,x4,x5⟩:=HXC.out _ HB1.out;go_wp2_with fail;go_ret
 exact⟨by rw[HVal.out];rfl,HBZ.out.trans (HB1.out.mono HBZ.out.size)⟩
theorem Jce (t:ByteArray) (n:Int) (ps:List Ty) (fs:Bp) (vs:Bm) (hp:∀ p∈ps,Ad p) (hf:∀ f∈fs,Ad f.2.2) (hv:∀ v∈vs,∀ b∈v.2,Ad b) (hnf:fs.length=0) (hnv:vs.length=0) (hpa:ps.all Ab=true) (ht0:t.toList=[]) (hn0:¬ 0<=n):Ad (.mk 9 t n ps fs vs):=by
 refine At 9 t n ps fs vs hp hf hv fun K w A c A' c' A'' c'' w1 h=>?_;obtain⟨HXC,KAll,KPl,KNm,KOb,KBi,KOv,HREP,HCN,HBZ,HB,HS1,HX0,HW1,hlp,hlf,hlv⟩:=h;clear hp hf hv;have HVal:Hid (Ab (.mk 9 t n ps fs vs)=false):=Hd (by
  rw[Am,show Ae 9=⟨false,true,false,false,0,0,true⟩ from rfl,hpa];unfold Aj Bh;simp[hnf,hnv,ht0];exact fun _=>by omega)
 obtain⟨f1,f2,f3,f4⟩:=Fw (m:=fs.length) (n:=vs.length) (by omega) (by omega);rw[hpa] at KAll;have f5:decide (0<=n)=false:=decide_eq_false hn0;clear hnf hnv hn0 hpa;go_enter Tryz.func38,Tryz.ntmps38;go_upto_region 1 with fail
 rw[<-HW1.out];obtain⟨x0,x1,x2,x3,x4,x5⟩:=HXC.out _ HB.out;go_wp2_with fail;refine (KAll.out _ HB.out).mono ?_;rintro e w2 ⟨rfl,hb⟩;have HB1:=Hd (HB.out.trans (hb.mono HB.out.size));clear hb;clear x0 x1 x2 x3 x4 x5;obtain⟨x0,x1,x2,x3,x4,x5⟩:=HXC.out _ HB1.out;go_wp2_with fail;go_ret
 exact⟨by rw[HVal.out];rfl,HBZ.out.trans (HB1.out.mono HBZ.out.size)⟩
theorem Jcf (t:ByteArray) (n:Int) (ps:List Ty) (fs:Bp) (vs:Bm) (hp:∀ p∈ps,Ad p) (hf:∀ f∈fs,Ad f.2.2) (hv:∀ v∈vs,∀ b∈v.2,Ad b) (hnf:fs.length=0) (hnv:vs.length=0) (hpa:ps.all Ab=true) (ht0:t.toList=[]) (hn0:0<=n) (hnp:ps.length≠0):Ad (.mk 9 t n ps fs vs):=by
 refine At 9 t n ps fs vs hp hf hv fun K w A c A' c' A'' c'' w1 h=>?_;obtain⟨HXC,KAll,KPl,KNm,KOb,KBi,KOv,HREP,HCN,HBZ,HB,HS1,HX0,HW1,hlp,hlf,hlv⟩:=h;clear hp hf hv;have HVal:Hid (Ab (.mk 9 t n ps fs vs)=false):=Hd (by
  rw[Am,show Ae 9=⟨false,true,false,false,0,0,true⟩ from rfl,hpa];unfold Aj Bh;simp[hnf,hnv,ht0,hn0];exact fun h=>hnp (by rw[h];rfl))
 obtain⟨f1,f2,f3,f4⟩:=Fw (m:=fs.length) (n:=vs.length) (by omega) (by omega);rw[hpa] at KAll;have f5:decide (0<=n)=true:=decide_eq_true hn0;have p1:((ps.length:Int) == 0)=false:=beq_eq_false_iff_ne.2 (by omega);have p2:(ps.length == 0)=false:=beq_eq_false_iff_ne.2 (by omega);have p3:decide (ps.length=0)=false:=decide_eq_false (by omega);have p4:decide ((ps.length:Int)=0)=false:=decide_eq_false (by omega);clear hnf hnv hnp hn0 hpa;go_enter Tryz.func38,Tryz.ntmps38;go_upto_region 1 with fail
 rw[<-HW1.out];obtain⟨x0,x1,x2,x3,x4,x5⟩:=HXC.out _ HB.out;go_wp2_with fail;refine (KAll.out _ HB.out).mono ?_;rintro e w2 ⟨rfl,hb⟩;have HB1:=Hd (HB.out.trans (hb.mono HB.out.size));clear hb;clear x0 x1 x2 x3 x4 x5;obtain⟨x0,x1,x2,x3,x4,x5⟩:=HXC.out _ HB1.out;go_wp2_with fail;go_ret
 exact⟨by rw[HVal.out];rfl,HBZ.out.trans (HB1.out.mono HBZ.out.size)⟩
theorem Jch (t:ByteArray) (n:Int) (ps:List Ty) (fs:Bp) (vs:Bm) (hp:∀ p∈ps,Ad p) (hf:∀ f∈fs,Ad f.2.2) (hv:∀ v∈vs,∀ b∈v.2,Ad b) (hnf:fs.length=0) (hnv:vs.length=0) (hpa:ps.all Ab=true) (ht0:t.toList=[]) (hn0:0<=n) (hnp:ps.length=0):Ad (.mk 9 t n ps fs vs):=by
 refine At 9 t n ps fs vs hp hf hv fun K w A c A' c' A'' c'' w1 h=>?_;obtain⟨HXC,KAll,KPl,KNm,KOb,KBi,KOv,HREP,HCN,HBZ,HB,HS1,HX0,HW1,hlp,hlf,hlv⟩:=h;clear hp hf hv;have HVal:Hid (Ab (.mk 9 t n ps fs vs)=true):=Hd (by
  rw[Am,show Ae 9=⟨false,true,false,false,0,0,true⟩ from rfl,hpa];unfold Aj Bh;simp[hnf,hnv,ht0,hn0,hnp])
 obtain⟨f1,f2,f3,f4⟩:=Fw (m:=fs.length) (n:=vs.length) (by omega) (by omega);rw[hpa] at KAll;have f5:decide (0<=n)=true:=decide_eq_true hn0;have p1:((ps.length:Int) == 0)=true:=beq_iff_eq.2 (by omega);have p2:(ps.length == 0)=true:=beq_iff_eq.2 (by omega);have p3:decide (ps.length=0)=true:=decide_eq_true (by omega);have p4:decide ((ps.length:Int)=0)=true:=decide_eq_true (by omega);clear hnf hnv hnp hn0 hpa;go_enter Tryz.func38,Tryz.ntmps38;go_upto_region 1 with fail
 rw[<-HW1.out];obtain⟨x0,x1,x2,x3,x4,x5⟩:=HXC.out _ HB.out;go_wp2_with fail;refine (KAll.out _ HB.out).mono ?_;rintro e w2 ⟨rfl,hb⟩;have HB1:=Hd (HB.out.trans (hb.mono HB.out.size));clear hb;clear x0 x1 x2 x3 x4 x5;obtain⟨x0,x1,x2,x3,x4,x5⟩:=HXC.out _ HB1.out;go_wp2_with fail;go_ret
 exact⟨by rw[HVal.out];rfl,HBZ.out.trans (HB1.out.mono HBZ.out.size)⟩
theorem Yl (t:ByteArray) (n:Int) (ps:List Ty) (fs:Bp) (vs:Bm) (hp:∀ p∈ps,Ad p) (hf:∀ f∈fs,Ad f.2.2) (hv:∀ v∈vs,∀ b∈v.2,Ad b) (hnf:fs.length=0) (hnv:vs.length=0) (hpa:ps.all Ab=true) (hn0:n≠0):Ad (.mk 10 t n ps fs vs):=by
 refine At 10 t n ps fs vs hp hf hv fun K w A c A' c' A'' c'' w1 h=>?_;obtain⟨HXC,KAll,KPl,KNm,KOb,KBi,KOv,HREP,HCN,HBZ,HB,HS1,HX0,HW1,hlp,hlf,hlv⟩:=h;clear hp hf hv;have HVal:Hid (Ab (.mk 10 t n ps fs vs)=false):=Hd (by
  rw[Am,show Ae 10=⟨true,false,false,false,0,0,true⟩ from rfl,hpa];unfold Aj Bh;simp[hnf,hnv,hn0])
 obtain⟨f1,f2,f3,f4⟩:=Fw (m:=fs.length) (n:=vs.length) (by omega) (by omega);rw[hpa] at KAll;have f5:(n == 0)=false:=by simpa using hn0
 clear hnf hnv hn0 hpa;go_enter Tryz.func38,Tryz.ntmps38;go_upto_region 1 with fail
 rw[<-HW1.out];obtain⟨x0,x1,x2,x3,x4,x5⟩:=HXC.out _ HB.out;go_wp2_with fail;refine (KAll.out _ HB.out).mono ?_;rintro e w2 ⟨rfl,hb⟩;have HB1:=Hd (HB.out.trans (hb.mono HB.out.size));clear hb;clear x0 x1 x2 x3 x4 x5;obtain⟨x0,x1,x2,x3,x4,x5⟩:=HXC.out _ HB1.out;go_wp2_with fail;go_ret
 exact⟨by rw[HVal.out];rfl,HBZ.out.trans (HB1.out.mono HBZ.out.size)⟩
theorem Ym (t:ByteArray) (n:Int) (ps:List Ty) (fs:Bp) (vs:Bm) (hp:∀ p∈ps,Ad p) (hf:∀ f∈fs,Ad f.2.2) (hv:∀ v∈vs,∀ b∈v.2,Ad b) (hnf:fs.length=0) (hnv:vs.length=0) (hpa:ps.all Ab=true) (hn0:n=0) (hnp:ps.length≠0):Ad (.mk 10 t n ps fs vs):=by
 refine At 10 t n ps fs vs hp hf hv fun K w A c A' c' A'' c'' w1 h=>?_;obtain⟨HXC,KAll,KPl,KNm,KOb,KBi,KOv,HREP,HCN,HBZ,HB,HS1,HX0,HW1,hlp,hlf,hlv⟩:=h;clear hp hf hv;have HVal:Hid (Ab (.mk 10 t n ps fs vs)=false):=Hd (by
  rw[Am,show Ae 10=⟨true,false,false,false,0,0,true⟩ from rfl,hpa];unfold Aj Bh;simp[hnf,hnv,hn0];exact fun h=>hnp (by rw[h];rfl))
 obtain⟨f1,f2,f3,f4⟩:=Fw (m:=fs.length) (n:=vs.length) (by omega) (by omega);rw[hpa] at KAll;have f5:(n == 0)=true:=by simpa using hn0
 have p1:((ps.length:Int) == 0)=false:=beq_eq_false_iff_ne.2 (by omega);have p2:(ps.length == 0)=false:=beq_eq_false_iff_ne.2 (by omega);have p3:decide (ps.length=0)=false:=decide_eq_false (by omega);have p4:decide ((ps.length:Int)=0)=false:=decide_eq_false (by omega);clear hnf hnv hnp hn0 hpa;go_enter Tryz.func38,Tryz.ntmps38;go_upto_region 1 with fail
 rw[<-HW1.out];obtain⟨x0,x1,x2,x3,x4,x5⟩:=HXC.out _ HB.out;go_wp2_with fail;refine (KAll.out _ HB.out).mono ?_;rintro e w2 ⟨rfl,hb⟩;have HB1:=Hd (HB.out.trans (hb.mono HB.out.size));clear hb;clear x0 x1 x2 x3 x4 x5;obtain⟨x0,x1,x2,x3,x4,x5⟩:=HXC.out _ HB1.out;go_wp2_with fail;go_ret
 exact⟨by rw[HVal.out];rfl,HBZ.out.trans (HB1.out.mono HBZ.out.size)⟩
theorem Yn (t:ByteArray) (n:Int) (ps:List Ty) (fs:Bp) (vs:Bm) (hp:∀ p∈ps,Ad p) (hf:∀ f∈fs,Ad f.2.2) (hv:∀ v∈vs,∀ b∈v.2,Ad b) (hnf:fs.length=0) (hnv:vs.length=0) (hpa:ps.all Ab=true) (hn0:n=0) (hnp:ps.length=0):Ad (.mk 10 t n ps fs vs):=by
 refine At 10 t n ps fs vs hp hf hv fun K w A c A' c' A'' c'' w1 h=>?_;obtain⟨HXC,KAll,KPl,KNm,KOb,KBi,KOv,HREP,HCN,HBZ,HB,HS1,HX0,HW1,hlp,hlf,hlv⟩:=h;clear hp hf hv;have HVal:Hid (Ab (.mk 10 t n ps fs vs)=true):=Hd (by
  rw[Am,show Ae 10=⟨true,false,false,false,0,0,true⟩ from rfl,hpa];unfold Aj Bh;simp[hnf,hnv,hn0,hnp])
 obtain⟨f1,f2,f3,f4⟩:=Fw (m:=fs.length) (n:=vs.length) (by omega) (by omega);rw[hpa] at KAll;have f5:(n == 0)=true:=by simpa using hn0
 have p1:((ps.length:Int) == 0)=true:=beq_iff_eq.2 (by omega);have p2:(ps.length == 0)=true:=beq_iff_eq.2 (by omega);have p3:decide (ps.length=0)=true:=decide_eq_true (by omega);have p4:decide ((ps.length:Int)=0)=true:=decide_eq_true (by omega);clear hnf hnv hnp hn0 hpa;go_enter Tryz.func38,Tryz.ntmps38;go_upto_region 1 with fail
 rw[<-HW1.out];obtain⟨x0,x1,x2,x3,x4,x5⟩:=HXC.out _ HB.out;go_wp2_with fail;refine (KAll.out _ HB.out).mono ?_;rintro e w2 ⟨rfl,hb⟩;have HB1:=Hd (HB.out.trans (hb.mono HB.out.size));clear hb;clear x0 x1 x2 x3 x4 x5;obtain⟨x0,x1,x2,x3,x4,x5⟩:=HXC.out _ HB1.out;go_wp2_with fail;go_ret
 exact⟨by rw[HVal.out];rfl,HBZ.out.trans (HB1.out.mono HBZ.out.size)⟩
theorem Ul (k:Int) (hk:k=11\/k=18) (t:ByteArray) (n:Int) (ps:List Ty) (fs:Bp) (vs:Bm) (hp:∀ p∈ps,Ad p) (hf:∀ f∈fs,Ad f.2.2) (hv:∀ v∈vs,∀ b∈v.2,Ad b) (hnf:fs.length=0) (hnv:vs.length=0) (hpa:ps.all Ab=true) (a0:UInt8) (l0:List UInt8) (ht0:t.toList=a0 :: l0):Ad (.mk k t n ps fs vs):=by
 refine At k t n ps fs vs hp hf hv fun K w A c A' c' A'' c'' w1 h=>?_;obtain⟨HXC,KAll,KPl,KNm,KOb,KBi,KOv,HREP,HCN,HBZ,HB,HS1,HX0,HW1,hlp,hlf,hlv⟩:=h;clear hp hf hv;have hs:Ae k=⟨false,false,false,false,1,1,true⟩:=by rcases hk with rfl | rfl <;> rfl
 have HVal:Hid (Ab (.mk k t n ps fs vs)=false):=Hd (by
  rcases hk with rfl | rfl
  all_goals (
   rw[Am,hs,hpa];unfold Aj Bh;simp[hnf,hnv,ht0]))
 obtain⟨f1,f2,f3,f4⟩:=Fw (m:=fs.length) (n:=vs.length) (by omega) (by omega);rw[hpa] at KAll;have ep:(t.toList == [] && n == 0)=false:=by rw[ht0];rfl
 rw[ep] at KPl;clear hnf hnv hpa ht0;clear hs;rcases hk with rfl | rfl
 all_goals (
  go_enter Tryz.func38,Tryz.ntmps38;go_upto_region 1 with fail
  rw[<-HW1.out];obtain⟨x0,x1,x2,x3,x4,x5⟩:=HXC.out _ HB.out;go_wp2_with fail;refine (KAll.out _ HB.out).mono ?_;rintro e w2 ⟨rfl,hb⟩;have HB1:=Hd (HB.out.trans (hb.mono HB.out.size));clear hb;clear x0 x1 x2 x3 x4 x5;obtain⟨x0,x1,x2,x3,x4,x5⟩:=HXC.out _ HB1.out;go_wp2_with fail;refine (KPl.out _).mono ?_;rintro e w3 ⟨rfl,hb⟩;have HB2:=Hd (HB1.out.trans (hb.mono HB1.out.size));clear hb;clear x0 x1 x2 x3 x4 x5;obtain⟨x0,x1,x2,x3,x4,x5⟩:=HXC.out _ HB2.out;go_wp2_with fail;go_ret
  exact⟨by rw[HVal.out];rfl,HBZ.out.trans (HB2.out.mono HBZ.out.size)⟩)
theorem Uj (k:Int) (hk:k=11\/k=18) (t:ByteArray) (n:Int) (ps:List Ty) (fs:Bp) (vs:Bm) (hp:∀ p∈ps,Ad p) (hf:∀ f∈fs,Ad f.2.2) (hv:∀ v∈vs,∀ b∈v.2,Ad b) (hnf:fs.length=0) (hnv:vs.length=0) (hpa:ps.all Ab=true) (ht0:t.toList=[]) (hn0:n≠0):Ad (.mk k t n ps fs vs):=by
 refine At k t n ps fs vs hp hf hv fun K w A c A' c' A'' c'' w1 h=>?_;obtain⟨HXC,KAll,KPl,KNm,KOb,KBi,KOv,HREP,HCN,HBZ,HB,HS1,HX0,HW1,hlp,hlf,hlv⟩:=h;clear hp hf hv;have hs:Ae k=⟨false,false,false,false,1,1,true⟩:=by rcases hk with rfl | rfl <;> rfl
 have HVal:Hid (Ab (.mk k t n ps fs vs)=false):=Hd (by
  rcases hk with rfl | rfl
  all_goals (
   rw[Am,hs,hpa];unfold Aj Bh;simp[hnf,hnv,ht0,hn0]))
 obtain⟨f1,f2,f3,f4⟩:=Fw (m:=fs.length) (n:=vs.length) (by omega) (by omega);rw[hpa] at KAll;have ep:(t.toList == [] && n == 0)=false:=by rw[ht0];simpa using hn0
 rw[ep] at KPl;clear hnf hnv hn0 hpa ht0;clear hs;rcases hk with rfl | rfl
 all_goals (
  go_enter Tryz.func38,Tryz.ntmps38;go_upto_region 1 with fail
  rw[<-HW1.out];obtain⟨x0,x1,x2,x3,x4,x5⟩:=HXC.out _ HB.out;go_wp2_with fail;refine (KAll.out _ HB.out).mono ?_;rintro e w2 ⟨rfl,hb⟩;have HB1:=Hd (HB.out.trans (hb.mono HB.out.size));clear hb;clear x0 x1 x2 x3 x4 x5;obtain⟨x0,x1,x2,x3,x4,x5⟩:=HXC.out _ HB1.out;go_wp2_with fail;refine (KPl.out _).mono ?_;rintro e w3 ⟨rfl,hb⟩;have HB2:=Hd (HB1.out.trans (hb.mono HB1.out.size));clear hb;clear x0 x1 x2 x3 x4 x5;obtain⟨x0,x1,x2,x3,x4,x5⟩:=HXC.out _ HB2.out;go_wp2_with fail;go_ret
  exact⟨by rw[HVal.out];rfl,HBZ.out.trans (HB2.out.mono HBZ.out.size)⟩)
theorem Uk (k:Int) (hk:k=11\/k=18) (t:ByteArray) (n:Int) (ps:List Ty) (fs:Bp) (vs:Bm) (hp:∀ p∈ps,Ad p) (hf:∀ f∈fs,Ad f.2.2) (hv:∀ v∈vs,∀ b∈v.2,Ad b) (hnf:fs.length=0) (hnv:vs.length=0) (hpa:ps.all Ab=true) (ht0:t.toList=[]) (hn0:n=0) (hnp:ps.length≠1):Ad (.mk k t n ps fs vs):=by
 refine At k t n ps fs vs hp hf hv fun K w A c A' c' A'' c'' w1 h=>?_;obtain⟨HXC,KAll,KPl,KNm,KOb,KBi,KOv,HREP,HCN,HBZ,HB,HS1,HX0,HW1,hlp,hlf,hlv⟩:=h;clear hp hf hv;have hs:Ae k=⟨false,false,false,false,1,1,true⟩:=by rcases hk with rfl | rfl <;> rfl
 have HVal:Hid (Ab (.mk k t n ps fs vs)=false):=Hd (by
  rcases hk with rfl | rfl
  all_goals (
   rw[Am,hs,hpa];unfold Aj Bh;simp[hnf,hnv,ht0,hn0];omega))
 obtain⟨f1,f2,f3,f4⟩:=Fw (m:=fs.length) (n:=vs.length) (by omega) (by omega);rw[hpa] at KAll;have ep:(t.toList == [] && n == 0)=true:=by rw[ht0,hn0];rfl
 rw[ep] at KPl;have p1:((ps.length:Int) == 1)=false:=beq_eq_false_iff_ne.2 (by omega);have p2:(ps.length == 1)=false:=beq_eq_false_iff_ne.2 (by omega);have p3:decide (ps.length=1)=false:=decide_eq_false (by omega);have p4:decide ((ps.length:Int)=1)=false:=decide_eq_false (by omega);clear hnf hnv hnp hn0 hpa ht0;clear hs;rcases hk with rfl | rfl
 all_goals (
  go_enter Tryz.func38,Tryz.ntmps38;go_upto_region 1 with fail
  rw[<-HW1.out];obtain⟨x0,x1,x2,x3,x4,x5⟩:=HXC.out _ HB.out;go_wp2_with fail;refine (KAll.out _ HB.out).mono ?_;rintro e w2 ⟨rfl,hb⟩;have HB1:=Hd (HB.out.trans (hb.mono HB.out.size));clear hb;clear x0 x1 x2 x3 x4 x5;obtain⟨x0,x1,x2,x3,x4,x5⟩:=HXC.out _ HB1.out;go_wp2_with fail;refine (KPl.out _).mono ?_;rintro e w3 ⟨rfl,hb⟩;have HB2:=Hd (HB1.out.trans (hb.mono HB1.out.size));clear hb;clear x0 x1 x2 x3 x4 x5;obtain⟨x0,x1,x2,x3,x4,x5⟩:=HXC.out _ HB2.out;go_wp2_with fail;go_ret
  exact⟨by rw[HVal.out];rfl,HBZ.out.trans (HB2.out.mono HBZ.out.size)⟩)
theorem Um (k:Int) (hk:k=11\/k=18) (t:ByteArray) (n:Int) (ps:List Ty) (fs:Bp) (vs:Bm) (hp:∀ p∈ps,Ad p) (hf:∀ f∈fs,Ad f.2.2) (hv:∀ v∈vs,∀ b∈v.2,Ad b) (hnf:fs.length=0) (hnv:vs.length=0) (hpa:ps.all Ab=true) (ht0:t.toList=[]) (hn0:n=0) (hnp:ps.length=1):Ad (.mk k t n ps fs vs):=by
 refine At k t n ps fs vs hp hf hv fun K w A c A' c' A'' c'' w1 h=>?_;obtain⟨HXC,KAll,KPl,KNm,KOb,KBi,KOv,HREP,HCN,HBZ,HB,HS1,HX0,HW1,hlp,hlf,hlv⟩:=h;clear hp hf hv;have hs:Ae k=⟨false,false,false,false,1,1,true⟩:=by rcases hk with rfl | rfl <;> rfl
 have HVal:Hid (Ab (.mk k t n ps fs vs)=true):=Hd (by
  rcases hk with rfl | rfl
  all_goals (
   rw[Am,hs,hpa];unfold Aj Bh;simp[hnf,hnv,ht0,hn0,hnp]))
 obtain⟨f1,f2,f3,f4⟩:=Fw (m:=fs.length) (n:=vs.length) (by omega) (by omega);rw[hpa] at KAll;have ep:(t.toList == [] && n == 0)=true:=by rw[ht0,hn0];rfl
 rw[ep] at KPl;have p1:((ps.length:Int) == 1)=true:=beq_iff_eq.2 (by omega);have p2:(ps.length == 1)=true:=beq_iff_eq.2 (by omega);have p3:decide (ps.length=1)=true:=decide_eq_true (by omega);have p4:decide ((ps.length:Int)=1)=true:=decide_eq_true (by omega);clear hnf hnv hnp hn0 hpa ht0;clear hs;rcases hk with rfl | rfl
 all_goals (
  go_enter Tryz.func38,Tryz.ntmps38;go_upto_region 1 with fail
  rw[<-HW1.out];obtain⟨x0,x1,x2,x3,x4,x5⟩:=HXC.out _ HB.out;go_wp2_with fail;refine (KAll.out _ HB.out).mono ?_;rintro e w2 ⟨rfl,hb⟩;have HB1:=Hd (HB.out.trans (hb.mono HB.out.size));clear hb;clear x0 x1 x2 x3 x4 x5;obtain⟨x0,x1,x2,x3,x4,x5⟩:=HXC.out _ HB1.out;go_wp2_with fail;refine (KPl.out _).mono ?_;rintro e w3 ⟨rfl,hb⟩;have HB2:=Hd (HB1.out.trans (hb.mono HB1.out.size));clear hb;clear x0 x1 x2 x3 x4 x5;obtain⟨x0,x1,x2,x3,x4,x5⟩:=HXC.out _ HB2.out;go_wp2_with fail;go_ret
  exact⟨by rw[HVal.out];rfl,HBZ.out.trans (HB2.out.mono HBZ.out.size)⟩)
theorem Yp (t:ByteArray) (n:Int) (ps:List Ty) (fs:Bp) (vs:Bm) (hp:∀ p∈ps,Ad p) (hf:∀ f∈fs,Ad f.2.2) (hv:∀ v∈vs,∀ b∈v.2,Ad b) (hnf:fs.length=0) (hnv:vs.length=0) (hpa:ps.all Ab=true) (a0:UInt8) (l0:List UInt8) (ht0:t.toList=a0 :: l0):Ad (.mk 12 t n ps fs vs):=by
 refine At 12 t n ps fs vs hp hf hv fun K w A c A' c' A'' c'' w1 h=>?_;obtain⟨HXC,KAll,KPl,KNm,KOb,KBi,KOv,HREP,HCN,HBZ,HB,HS1,HX0,HW1,hlp,hlf,hlv⟩:=h;clear hp hf hv;have HVal:Hid (Ab (.mk 12 t n ps fs vs)=false):=Hd (by
  rw[Am,show Ae 12=⟨false,false,false,false,0,-1,true⟩ from rfl,hpa];unfold Aj Bh;simp[hnf,hnv,ht0])
 obtain⟨f1,f2,f3,f4⟩:=Fw (m:=fs.length) (n:=vs.length) (by omega) (by omega);rw[hpa] at KAll;have ep:(t.toList == [] && n == 0)=false:=by rw[ht0];rfl
 rw[ep] at KPl;clear hnf hnv hpa ht0;go_enter Tryz.func38,Tryz.ntmps38;go_upto_region 1 with fail
 rw[<-HW1.out];obtain⟨x0,x1,x2,x3,x4,x5⟩:=HXC.out _ HB.out;go_wp2_with fail;refine (KAll.out _ HB.out).mono ?_;rintro e w2 ⟨rfl,hb⟩;have HB1:=Hd (HB.out.trans (hb.mono HB.out.size));clear hb;clear x0 x1 x2 x3 x4 x5;obtain⟨x0,x1,x2,x3,x4,x5⟩:=HXC.out _ HB1.out;go_wp2_with fail;refine (KPl.out _).mono ?_;rintro e w3 ⟨rfl,hb⟩;have HB2:=Hd (HB1.out.trans (hb.mono HB1.out.size));clear hb;clear x0 x1 x2 x3 x4 x5;obtain⟨x0,x1,x2,x3,x4,x5⟩:=HXC.out _ HB2.out;go_wp2_with fail;go_ret
 exact⟨by rw[HVal.out];rfl,HBZ.out.trans (HB2.out.mono HBZ.out.size)⟩
theorem Yo (t:ByteArray) (n:Int) (ps:List Ty) (fs:Bp) (vs:Bm) (hp:∀ p∈ps,Ad p) (hf:∀ f∈fs,Ad f.2.2) (hv:∀ v∈vs,∀ b∈v.2,Ad b) (hnf:fs.length=0) (hnv:vs.length=0) (hpa:ps.all Ab=true) (ht0:t.toList=[]) (hn0:n≠0):Ad (.mk 12 t n ps fs vs):=by
 refine At 12 t n ps fs vs hp hf hv fun K w A c A' c' A'' c'' w1 h=>?_;obtain⟨HXC,KAll,KPl,KNm,KOb,KBi,KOv,HREP,HCN,HBZ,HB,HS1,HX0,HW1,hlp,hlf,hlv⟩:=h;clear hp hf hv;have HVal:Hid (Ab (.mk 12 t n ps fs vs)=false):=Hd (by
  rw[Am,show Ae 12=⟨false,false,false,false,0,-1,true⟩ from rfl,hpa];unfold Aj Bh;simp[hnf,hnv,ht0,hn0])
 obtain⟨f1,f2,f3,f4⟩:=Fw (m:=fs.length) (n:=vs.length) (by omega) (by omega);rw[hpa] at KAll;have ep:(t.toList == [] && n == 0)=false:=by rw[ht0];simpa using hn0
 rw[ep] at KPl;clear hnf hnv hn0 hpa ht0;go_enter Tryz.func38,Tryz.ntmps38;go_upto_region 1 with fail
 rw[<-HW1.out];obtain⟨x0,x1,x2,x3,x4,x5⟩:=HXC.out _ HB.out;go_wp2_with fail;refine (KAll.out _ HB.out).mono ?_;rintro e w2 ⟨rfl,hb⟩;have HB1:=Hd (HB.out.trans (hb.mono HB.out.size));clear hb;clear x0 x1 x2 x3 x4 x5;obtain⟨x0,x1,x2,x3,x4,x5⟩:=HXC.out _ HB1.out;go_wp2_with fail;refine (KPl.out _).mono ?_;rintro e w3 ⟨rfl,hb⟩;have HB2:=Hd (HB1.out.trans (hb.mono HB1.out.size));clear hb;clear x0 x1 x2 x3 x4 x5;obtain⟨x0,x1,x2,x3,x4,x5⟩:=HXC.out _ HB2.out;go_wp2_with fail;go_ret
 exact⟨by rw[HVal.out];rfl,HBZ.out.trans (HB2.out.mono HBZ.out.size)⟩
theorem Yq (t:ByteArray) (n:Int) (ps:List Ty) (fs:Bp) (vs:Bm) (hp:∀ p∈ps,Ad p) (hf:∀ f∈fs,Ad f.2.2) (hv:∀ v∈vs,∀ b∈v.2,Ad b) (hnf:fs.length=0) (hnv:vs.length=0) (hpa:ps.all Ab=true) (ht0:t.toList=[]) (hn0:n=0):Ad (.mk 12 t n ps fs vs):=by
 refine At 12 t n ps fs vs hp hf hv fun K w A c A' c' A'' c'' w1 h=>?_;obtain⟨HXC,KAll,KPl,KNm,KOb,KBi,KOv,HREP,HCN,HBZ,HB,HS1,HX0,HW1,hlp,hlf,hlv⟩:=h;clear hp hf hv;have HVal:Hid (Ab (.mk 12 t n ps fs vs)=true):=Hd (by
  rw[Am,show Ae 12=⟨false,false,false,false,0,-1,true⟩ from rfl,hpa];unfold Aj Bh;simp[hnf,hnv,ht0,hn0])
 obtain⟨f1,f2,f3,f4⟩:=Fw (m:=fs.length) (n:=vs.length) (by omega) (by omega);rw[hpa] at KAll;have ep:(t.toList == [] && n == 0)=true:=by rw[ht0,hn0];rfl
 rw[ep] at KPl;clear hnf hnv hn0 hpa ht0;go_enter Tryz.func38,Tryz.ntmps38;go_upto_region 1 with fail
 rw[<-HW1.out];obtain⟨x0,x1,x2,x3,x4,x5⟩:=HXC.out _ HB.out;go_wp2_with fail;refine (KAll.out _ HB.out).mono ?_;rintro e w2 ⟨rfl,hb⟩;have HB1:=Hd (HB.out.trans (hb.mono HB.out.size));clear hb;clear x0 x1 x2 x3 x4 x5;obtain⟨x0,x1,x2,x3,x4,x5⟩:=HXC.out _ HB1.out;go_wp2_with fail;refine (KPl.out _).mono ?_;rintro e w3 ⟨rfl,hb⟩;have HB2:=Hd (HB1.out.trans (hb.mono HB1.out.size));clear hb;clear x0 x1 x2 x3 x4 x5;obtain⟨x0,x1,x2,x3,x4,x5⟩:=HXC.out _ HB2.out;go_wp2_with fail;go_ret
 exact⟨by rw[HVal.out];rfl,HBZ.out.trans (HB2.out.mono HBZ.out.size)⟩
theorem Yt (t:ByteArray) (n:Int) (ps:List Ty) (fs:Bp) (vs:Bm) (hp:∀ p∈ps,Ad p) (hf:∀ f∈fs,Ad f.2.2) (hv:∀ v∈vs,∀ b∈v.2,Ad b) (hnf:fs.length=0) (hpa:ps.all Ab=true) (a0:UInt8) (l0:List UInt8) (ht0:t.toList=a0 :: l0):Ad (.mk 13 t n ps fs vs):=by
 refine At 13 t n ps fs vs hp hf hv fun K w A c A' c' A'' c'' w1 h=>?_;obtain⟨HXC,KAll,KPl,KNm,KOb,KBi,KOv,HREP,HCN,HBZ,HB,HS1,HX0,HW1,hlp,hlf,hlv⟩:=h;clear hp hf hv;have HVal:Hid (Ab (.mk 13 t n ps fs vs)=false):=Hd (by
  rw[Am,show Ae 13=⟨false,false,false,true,1,-1,true⟩ from rfl,hpa];unfold Aj Bh;simp[hnf,ht0])
 have f1:decide ((0:Int)<(fs.length:Int))=false:=decide_eq_false (by omega);have f2:decide (0<fs.length)=false:=decide_eq_false (by omega);rw[hpa] at KAll;have ep:(t.toList == [] && n == 0)=false:=by rw[ht0];rfl
 rw[ep] at KPl;clear hnf hpa ht0;go_enter Tryz.func38,Tryz.ntmps38;go_upto_region 1 with fail
 rw[<-HW1.out];obtain⟨x0,x1,x2,x3,x4,x5⟩:=HXC.out _ HB.out;go_wp2_with fail;refine (KAll.out _ HB.out).mono ?_;rintro e w2 ⟨rfl,hb⟩;have HB1:=Hd (HB.out.trans (hb.mono HB.out.size));clear hb;clear x0 x1 x2 x3 x4 x5;obtain⟨x0,x1,x2,x3,x4,x5⟩:=HXC.out _ HB1.out;go_wp2_with fail;refine (KPl.out _).mono ?_;rintro e w3 ⟨rfl,hb⟩;have HB2:=Hd (HB1.out.trans (hb.mono HB1.out.size));clear hb;clear x0 x1 x2 x3 x4 x5;obtain⟨x0,x1,x2,x3,x4,x5⟩:=HXC.out _ HB2.out;go_wp2_with fail;go_ret
 exact⟨by rw[HVal.out];rfl,HBZ.out.trans (HB2.out.mono HBZ.out.size)⟩
theorem Yr (t:ByteArray) (n:Int) (ps:List Ty) (fs:Bp) (vs:Bm) (hp:∀ p∈ps,Ad p) (hf:∀ f∈fs,Ad f.2.2) (hv:∀ v∈vs,∀ b∈v.2,Ad b) (hnf:fs.length=0) (hpa:ps.all Ab=true) (ht0:t.toList=[]) (hn0:n≠0):Ad (.mk 13 t n ps fs vs):=by
 refine At 13 t n ps fs vs hp hf hv fun K w A c A' c' A'' c'' w1 h=>?_;obtain⟨HXC,KAll,KPl,KNm,KOb,KBi,KOv,HREP,HCN,HBZ,HB,HS1,HX0,HW1,hlp,hlf,hlv⟩:=h;clear hp hf hv;have HVal:Hid (Ab (.mk 13 t n ps fs vs)=false):=Hd (by
  rw[Am,show Ae 13=⟨false,false,false,true,1,-1,true⟩ from rfl,hpa];unfold Aj Bh;simp[hnf,ht0,hn0])
 have f1:decide ((0:Int)<(fs.length:Int))=false:=decide_eq_false (by omega);have f2:decide (0<fs.length)=false:=decide_eq_false (by omega);rw[hpa] at KAll;have ep:(t.toList == [] && n == 0)=false:=by rw[ht0];simpa using hn0
 rw[ep] at KPl;clear hnf hn0 hpa ht0;go_enter Tryz.func38,Tryz.ntmps38;go_upto_region 1 with fail
 rw[<-HW1.out];obtain⟨x0,x1,x2,x3,x4,x5⟩:=HXC.out _ HB.out;go_wp2_with fail;refine (KAll.out _ HB.out).mono ?_;rintro e w2 ⟨rfl,hb⟩;have HB1:=Hd (HB.out.trans (hb.mono HB.out.size));clear hb;clear x0 x1 x2 x3 x4 x5;obtain⟨x0,x1,x2,x3,x4,x5⟩:=HXC.out _ HB1.out;go_wp2_with fail;refine (KPl.out _).mono ?_;rintro e w3 ⟨rfl,hb⟩;have HB2:=Hd (HB1.out.trans (hb.mono HB1.out.size));clear hb;clear x0 x1 x2 x3 x4 x5;obtain⟨x0,x1,x2,x3,x4,x5⟩:=HXC.out _ HB2.out;go_wp2_with fail;go_ret
 exact⟨by rw[HVal.out];rfl,HBZ.out.trans (HB2.out.mono HBZ.out.size)⟩
theorem Ys (t:ByteArray) (n:Int) (ps:List Ty) (fs:Bp) (vs:Bm) (hp:∀ p∈ps,Ad p) (hf:∀ f∈fs,Ad f.2.2) (hv:∀ v∈vs,∀ b∈v.2,Ad b) (hnf:fs.length=0) (hpa:ps.all Ab=true) (ht0:t.toList=[]) (hn0:n=0) (hnp:¬ 1<=ps.length):Ad (.mk 13 t n ps fs vs):=by
 refine At 13 t n ps fs vs hp hf hv fun K w A c A' c' A'' c'' w1 h=>?_;obtain⟨HXC,KAll,KPl,KNm,KOb,KBi,KOv,HREP,HCN,HBZ,HB,HS1,HX0,HW1,hlp,hlf,hlv⟩:=h;clear hp hf hv;have HVal:Hid (Ab (.mk 13 t n ps fs vs)=false):=Hd (by
  rw[Am,show Ae 13=⟨false,false,false,true,1,-1,true⟩ from rfl,hpa];unfold Aj Bh;simp[hnf,ht0,hn0];omega)
 have f1:decide ((0:Int)<(fs.length:Int))=false:=decide_eq_false (by omega);have f2:decide (0<fs.length)=false:=decide_eq_false (by omega);rw[hpa] at KAll;have ep:(t.toList == [] && n == 0)=true:=by rw[ht0,hn0];rfl
 rw[ep] at KPl;have p1:decide ((1:Int)<=(ps.length:Int))=false:=decide_eq_false (by omega);have p2:decide (1<=ps.length)=false:=decide_eq_false (by omega);clear hnf hnp hn0 hpa ht0;go_enter Tryz.func38,Tryz.ntmps38;go_upto_region 1 with fail
 rw[<-HW1.out];obtain⟨x0,x1,x2,x3,x4,x5⟩:=HXC.out _ HB.out;go_wp2_with fail;refine (KAll.out _ HB.out).mono ?_;rintro e w2 ⟨rfl,hb⟩;have HB1:=Hd (HB.out.trans (hb.mono HB.out.size));clear hb;clear x0 x1 x2 x3 x4 x5;obtain⟨x0,x1,x2,x3,x4,x5⟩:=HXC.out _ HB1.out;go_wp2_with fail;refine (KPl.out _).mono ?_;rintro e w3 ⟨rfl,hb⟩;have HB2:=Hd (HB1.out.trans (hb.mono HB1.out.size));clear hb;clear x0 x1 x2 x3 x4 x5;obtain⟨x0,x1,x2,x3,x4,x5⟩:=HXC.out _ HB2.out;go_wp2_with fail;go_ret
 exact⟨by rw[HVal.out];rfl,HBZ.out.trans (HB2.out.mono HBZ.out.size)⟩
theorem V4 (t:ByteArray) (n:Int) (ps:List Ty) (fs:Bp) (vs:Bm) (hp:∀ p∈ps,Ad p) (hf:∀ f∈fs,Ad f.2.2) (hv:∀ v∈vs,∀ b∈v.2,Ad b) (hnf:fs.length=0) (hpa:ps.all Ab=true) (ht0:t.toList=[]) (hn0:n=0) (hnp:1<=ps.length) (hbi:Dy (C3 vs Ab)=false):Ad (.mk 13 t n ps fs vs):=by
 refine At 13 t n ps fs vs hp hf hv fun K w A c A' c' A'' c'' w1 h=>?_;obtain⟨HXC,KAll,KPl,KNm,KOb,KBi,KOv,HREP,HCN,HBZ,HB,HS1,HX0,HW1,hlp,hlf,hlv⟩:=h;clear hp hf hv;have HVal:Hid (Ab (.mk 13 t n ps fs vs)=false):=Hd (by
  rw[Am,show Ae 13=⟨false,false,false,true,1,-1,true⟩ from rfl,hpa];unfold Aj Bh;simp[hnf,ht0,hn0,hbi])
 have f1:decide ((0:Int)<(fs.length:Int))=false:=decide_eq_false (by omega);have f2:decide (0<fs.length)=false:=decide_eq_false (by omega);rw[hpa] at KAll;have ep:(t.toList == [] && n == 0)=true:=by rw[ht0,hn0];rfl
 rw[ep] at KPl;have p1:decide ((1:Int)<=(ps.length:Int))=true:=decide_eq_true (by omega);have p2:decide (1<=ps.length)=true:=decide_eq_true (by omega);rw[hbi] at KBi;clear hnf hnp hn0 hpa hbi ht0;go_enter Tryz.func38,Tryz.ntmps38;go_upto_region 1 with fail
 rw[<-HW1.out];obtain⟨x0,x1,x2,x3,x4,x5⟩:=HXC.out _ HB.out;go_wp2_with fail;refine (KAll.out _ HB.out).mono ?_;rintro e w2 ⟨rfl,hb⟩;have HB1:=Hd (HB.out.trans (hb.mono HB.out.size));clear hb;clear x0 x1 x2 x3 x4 x5;obtain⟨x0,x1,x2,x3,x4,x5⟩:=HXC.out _ HB1.out;go_wp2_with fail;refine (KPl.out _).mono ?_;rintro e w3 ⟨rfl,hb⟩;have HB2:=Hd (HB1.out.trans (hb.mono HB1.out.size));clear hb;clear x0 x1 x2 x3 x4 x5;obtain⟨x0,x1,x2,x3,x4,x5⟩:=HXC.out _ HB2.out;go_wp2_with fail;refine (KBi.out _ HB2.out).mono ?_;rintro e w4 ⟨rfl,hb⟩;have HB3:=Hd (HB2.out.trans (hb.mono HB2.out.size));clear hb;clear x0 x1 x2 x3 x4 x5;obtain⟨x0,x1,x2,x3,x4,x5⟩:=HXC.out _ HB3.out;go_wp2_with fail;go_ret
 exact⟨by rw[HVal.out];rfl,HBZ.out.trans (HB3.out.mono HBZ.out.size)⟩
theorem V5 (t:ByteArray) (n:Int) (ps:List Ty) (fs:Bp) (vs:Bm) (hp:∀ p∈ps,Ad p) (hf:∀ f∈fs,Ad f.2.2) (hv:∀ v∈vs,∀ b∈v.2,Ad b) (hnf:fs.length=0) (hpa:ps.all Ab=true) (ht0:t.toList=[]) (hn0:n=0) (hnp:1<=ps.length) (hbi:Dy (C3 vs Ab)=true):Ad (.mk 13 t n ps fs vs):=by
 refine At 13 t n ps fs vs hp hf hv fun K w A c A' c' A'' c'' w1 h=>?_;obtain⟨HXC,KAll,KPl,KNm,KOb,KBi,KOv,HREP,HCN,HBZ,HB,HS1,HX0,HW1,hlp,hlf,hlv⟩:=h;clear hp hf hv;have HVal:Hid (Ab (.mk 13 t n ps fs vs)=true):=Hd (by
  rw[Am,show Ae 13=⟨false,false,false,true,1,-1,true⟩ from rfl,hpa];unfold Aj Bh;simp[hnf,ht0,hn0,hbi];omega)
 have f1:decide ((0:Int)<(fs.length:Int))=false:=decide_eq_false (by omega);have f2:decide (0<fs.length)=false:=decide_eq_false (by omega);rw[hpa] at KAll;have ep:(t.toList == [] && n == 0)=true:=by rw[ht0,hn0];rfl
 rw[ep] at KPl;have p1:decide ((1:Int)<=(ps.length:Int))=true:=decide_eq_true (by omega);have p2:decide (1<=ps.length)=true:=decide_eq_true (by omega);rw[hbi] at KBi;clear hnf hnp hn0 hpa hbi ht0;go_enter Tryz.func38,Tryz.ntmps38;go_upto_region 1 with fail
 rw[<-HW1.out];obtain⟨x0,x1,x2,x3,x4,x5⟩:=HXC.out _ HB.out;go_wp2_with fail;refine (KAll.out _ HB.out).mono ?_;rintro e w2 ⟨rfl,hb⟩;have HB1:=Hd (HB.out.trans (hb.mono HB.out.size));clear hb;clear x0 x1 x2 x3 x4 x5;obtain⟨x0,x1,x2,x3,x4,x5⟩:=HXC.out _ HB1.out;go_wp2_with fail;refine (KPl.out _).mono ?_;rintro e w3 ⟨rfl,hb⟩;have HB2:=Hd (HB1.out.trans (hb.mono HB1.out.size));clear hb;clear x0 x1 x2 x3 x4 x5;obtain⟨x0,x1,x2,x3,x4,x5⟩:=HXC.out _ HB2.out;go_wp2_with fail;refine (KBi.out _ HB2.out).mono ?_;rintro e w4 ⟨rfl,hb⟩;have HB3:=Hd (HB2.out.trans (hb.mono HB2.out.size));clear hb;clear x0 x1 x2 x3 x4 x5;obtain⟨x0,x1,x2,x3,x4,x5⟩:=HXC.out _ HB3.out;go_wp2_with fail;go_ret
 exact⟨by rw[HVal.out];rfl,HBZ.out.trans (HB3.out.mono HBZ.out.size)⟩
end Go.Proofs.YtlpfpehegddcfaaGreatDoor
