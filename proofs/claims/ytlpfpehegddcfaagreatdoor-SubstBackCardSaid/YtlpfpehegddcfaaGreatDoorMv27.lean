import Derived.Test.YtlpfpehegddcfaaGreatDoorMv23
namespace Go.Proofs.YtlpfpehegddcfaaGreatDoor
set_option maxRecDepth 100000
set_option maxHeartbeats 64000000
open Go.RowKit
theorem Yz (t:ByteArray) (n:Int) (ps:List Ty) (fs:Bp) (vs:Bm) (hp:∀ p∈ps,Ad p) (hf:∀ f∈fs,Ad f.2.2) (hv:∀ v∈vs,∀ b∈v.2,Ad b) (hnf:fs.length=0) (hnv:vs.length=0) (hpa:ps.all Ab=true) (a0:UInt8) (l0:List UInt8) (ht0:t.toList=a0 :: l0):Ad (.mk 15 t n ps fs vs):=by
 refine At 15 t n ps fs vs hp hf hv fun K w A c A' c' A'' c'' w1 h=>?_;obtain⟨HXC,KAll,KPl,KNm,KOb,KBi,KOv,HREP,HCN,HBZ,HB,HS1,HX0,HW1,hlp,hlf,hlv⟩:=h;clear hp hf hv;have HVal:Hid (Ab (.mk 15 t n ps fs vs)=false):=Hd (by
  rw[Am,show Ae 15=⟨false,false,false,false,2,-1,true⟩ from rfl,hpa];unfold Aj Bh;simp[hnf,hnv,ht0])
 obtain⟨f1,f2,f3,f4⟩:=Fw (m:=fs.length) (n:=vs.length) (by omega) (by omega);rw[hpa] at KAll;have ep:(t.toList == [] && n == 0)=false:=by rw[ht0];rfl
 rw[ep] at KPl;try clear hnf
 try clear hnv
 try clear hnp
 try clear hn0
 try clear hpa
 try clear ht0
 go_enter Tryz.func38,Tryz.ntmps38;go_upto_region 1 with fail
 rw[<-HW1.out];obtain⟨x0,x1,x2,x3,x4,x5⟩:=HXC.out _ HB.out;go_wp2_with fail;refine (KAll.out _ HB.out).mono ?_;rintro e w2 ⟨rfl,hb⟩;have HB1:=Hd (HB.out.trans (hb.mono HB.out.size));clear hb;clear x0 x1 x2 x3 x4 x5;obtain⟨x0,x1,x2,x3,x4,x5⟩:=HXC.out _ HB1.out;go_wp2_with fail;clear x0 x1 x2 x3 x4 x5;refine wp_region_held_drew (S:=(fun w'=>w'.cell? ⟨w.heap.size,0,none⟩=some (.int .i64 15)/\w'.cell? ⟨w.heap.size,1,none⟩=some (.string t)/\w'.cell? ⟨w.heap.size,2,none⟩=some (.int .i64 n)/\w'.cell? ⟨w.heap.size,3,none⟩=some (.slice A ps.length c)/\w'.cell? ⟨w.heap.size,4,none⟩=some (.slice A' fs.length c')/\w'.cell? ⟨w.heap.size,5,none⟩=some (.slice A'' vs.length c''))) (by kernel_rfl) (HXC.out _ HB1.out.drew) (fun hHeld=>?_);refine Plan.start [0] ?_;refine Plan.tk (so rfl) hHeld ?_;try simp only[Act.put,Ax,Ay,Az]
 refine Plan.done ?_;refine wpAnyH_ready (rs:=[1]) (by kernel_rfl) (by simp) ?_;refine AllReadyH.cons (sd (some 115) rfl) (fun K hK=>?_) AllReadyH.nil;go_simp;refine (KPl.out _).mono ?_;rintro e w4 ⟨rfl,hb⟩;have HB2:=Hd (HB1.out.drew.trans (hb.mono HB1.out.drew.size));clear hb;go_wp2_with fail;refine hK.out _ _ (HXC.out _ HB2.out) (fun hHeld=>?_);clear hK K;try simp only[Act.put,Ax,Ay,Az]
 refine Plan.start [2] ?_;refine Plan.tk (so rfl) hHeld ?_;try simp only[Act.put,Ax,Ay,Az]
 refine Plan.done ?_;refine Plan.start [3,4] ?_
 iterate 2 (refine Plan.take (v:=undef) (so rfl) (by kernel_rfl) (by kernel_rfl) (by kernel_rfl) (fun _ _ _ h=>h) (Or.inr ⟨by rfl,rfl⟩) hHeld ?_;try simp only[Act.put,Ax,Ay,Az])
 refine Plan.done ?_;refine Plan.start [5,6] ?_
 iterate 2 (refine Plan.tk (so rfl) hHeld ?_;try simp only[Act.put,Ax,Ay,Az])
 refine Plan.done ?_;refine Plan.start [7,8,9,10,11,12] ?_
 iterate 6 (refine Plan.take (v:=undef) (so rfl) (by kernel_rfl) (by kernel_rfl) (by kernel_rfl) (fun _ _ _ h=>h) (Or.inr ⟨by rfl,rfl⟩) hHeld ?_;try simp only[Act.put,Ax,Ay,Az])
 refine Plan.done ?_;refine Plan.start [13,14] ?_
 iterate 2 (refine Plan.tk (so rfl) hHeld ?_;try simp only[Act.put,Ax,Ay,Az])
 refine Plan.done ?_;refine wpAnyH_done (by kernel_rfl) ?_ _;clear hHeld;go_wp2_with fail;go_ret
 exact⟨by rw[HVal.out];rfl,HBZ.out.trans (HB2.out.mono HBZ.out.size)⟩
theorem Yx (t:ByteArray) (n:Int) (ps:List Ty) (fs:Bp) (vs:Bm) (hp:∀ p∈ps,Ad p) (hf:∀ f∈fs,Ad f.2.2) (hv:∀ v∈vs,∀ b∈v.2,Ad b) (hnf:fs.length=0) (hnv:vs.length=0) (hpa:ps.all Ab=true) (ht0:t.toList=[]) (hn0:n≠0):Ad (.mk 15 t n ps fs vs):=by
 refine At 15 t n ps fs vs hp hf hv fun K w A c A' c' A'' c'' w1 h=>?_;obtain⟨HXC,KAll,KPl,KNm,KOb,KBi,KOv,HREP,HCN,HBZ,HB,HS1,HX0,HW1,hlp,hlf,hlv⟩:=h;clear hp hf hv;have HVal:Hid (Ab (.mk 15 t n ps fs vs)=false):=Hd (by
  rw[Am,show Ae 15=⟨false,false,false,false,2,-1,true⟩ from rfl,hpa];unfold Aj Bh;simp[hnf,hnv,ht0,hn0])
 obtain⟨f1,f2,f3,f4⟩:=Fw (m:=fs.length) (n:=vs.length) (by omega) (by omega);rw[hpa] at KAll;have ep:(t.toList == [] && n == 0)=false:=by rw[ht0];simpa using hn0
 rw[ep] at KPl;try clear hnf
 try clear hnv
 try clear hnp
 try clear hn0
 try clear hpa
 try clear ht0
 go_enter Tryz.func38,Tryz.ntmps38;go_upto_region 1 with fail
 rw[<-HW1.out];obtain⟨x0,x1,x2,x3,x4,x5⟩:=HXC.out _ HB.out;go_wp2_with fail;refine (KAll.out _ HB.out).mono ?_;rintro e w2 ⟨rfl,hb⟩;have HB1:=Hd (HB.out.trans (hb.mono HB.out.size));clear hb;clear x0 x1 x2 x3 x4 x5;obtain⟨x0,x1,x2,x3,x4,x5⟩:=HXC.out _ HB1.out;go_wp2_with fail;clear x0 x1 x2 x3 x4 x5;refine wp_region_held_drew (S:=(fun w'=>w'.cell? ⟨w.heap.size,0,none⟩=some (.int .i64 15)/\w'.cell? ⟨w.heap.size,1,none⟩=some (.string t)/\w'.cell? ⟨w.heap.size,2,none⟩=some (.int .i64 n)/\w'.cell? ⟨w.heap.size,3,none⟩=some (.slice A ps.length c)/\w'.cell? ⟨w.heap.size,4,none⟩=some (.slice A' fs.length c')/\w'.cell? ⟨w.heap.size,5,none⟩=some (.slice A'' vs.length c''))) (by kernel_rfl) (HXC.out _ HB1.out.drew) (fun hHeld=>?_);refine Plan.start [0] ?_;refine Plan.tk (so rfl) hHeld ?_;try simp only[Act.put,Ax,Ay,Az]
 refine Plan.done ?_;refine wpAnyH_ready (rs:=[1]) (by kernel_rfl) (by simp) ?_;refine AllReadyH.cons (sd (some 115) rfl) (fun K hK=>?_) AllReadyH.nil;go_simp;refine (KPl.out _).mono ?_;rintro e w4 ⟨rfl,hb⟩;have HB2:=Hd (HB1.out.drew.trans (hb.mono HB1.out.drew.size));clear hb;go_wp2_with fail;refine hK.out _ _ (HXC.out _ HB2.out) (fun hHeld=>?_);clear hK K;try simp only[Act.put,Ax,Ay,Az]
 refine Plan.start [2] ?_;refine Plan.tk (so rfl) hHeld ?_;try simp only[Act.put,Ax,Ay,Az]
 refine Plan.done ?_;refine Plan.start [3,4] ?_
 iterate 2 (refine Plan.take (v:=undef) (so rfl) (by kernel_rfl) (by kernel_rfl) (by kernel_rfl) (fun _ _ _ h=>h) (Or.inr ⟨by rfl,rfl⟩) hHeld ?_;try simp only[Act.put,Ax,Ay,Az])
 refine Plan.done ?_;refine Plan.start [5,6] ?_
 iterate 2 (refine Plan.tk (so rfl) hHeld ?_;try simp only[Act.put,Ax,Ay,Az])
 refine Plan.done ?_;refine Plan.start [7,8,9,10,11,12] ?_
 iterate 6 (refine Plan.take (v:=undef) (so rfl) (by kernel_rfl) (by kernel_rfl) (by kernel_rfl) (fun _ _ _ h=>h) (Or.inr ⟨by rfl,rfl⟩) hHeld ?_;try simp only[Act.put,Ax,Ay,Az])
 refine Plan.done ?_;refine Plan.start [13,14] ?_
 iterate 2 (refine Plan.tk (so rfl) hHeld ?_;try simp only[Act.put,Ax,Ay,Az])
 refine Plan.done ?_;refine wpAnyH_done (by kernel_rfl) ?_ _;clear hHeld;go_wp2_with fail;go_ret
 exact⟨by rw[HVal.out];rfl,HBZ.out.trans (HB2.out.mono HBZ.out.size)⟩
theorem Yy (t:ByteArray) (n:Int) (ps:List Ty) (fs:Bp) (vs:Bm) (hp:∀ p∈ps,Ad p) (hf:∀ f∈fs,Ad f.2.2) (hv:∀ v∈vs,∀ b∈v.2,Ad b) (hnf:fs.length=0) (hnv:vs.length=0) (hpa:ps.all Ab=true) (ht0:t.toList=[]) (hn0:n=0) (hnp:¬ 2<=ps.length):Ad (.mk 15 t n ps fs vs):=by
 refine At 15 t n ps fs vs hp hf hv fun K w A c A' c' A'' c'' w1 h=>?_;obtain⟨HXC,KAll,KPl,KNm,KOb,KBi,KOv,HREP,HCN,HBZ,HB,HS1,HX0,HW1,hlp,hlf,hlv⟩:=h;clear hp hf hv;have HVal:Hid (Ab (.mk 15 t n ps fs vs)=false):=Hd (by
  rw[Am,show Ae 15=⟨false,false,false,false,2,-1,true⟩ from rfl,hpa];unfold Aj Bh;simp[hnf,hnv,ht0,hn0];omega)
 obtain⟨f1,f2,f3,f4⟩:=Fw (m:=fs.length) (n:=vs.length) (by omega) (by omega);rw[hpa] at KAll;have ep:(t.toList == [] && n == 0)=true:=by rw[ht0,hn0];rfl
 rw[ep] at KPl;have p1:decide ((2:Int)<=(ps.length:Int))=false:=decide_eq_false (by omega);have p2:decide (2<=ps.length)=false:=decide_eq_false (by omega);try clear hnf
 try clear hnv
 try clear hnp
 try clear hn0
 try clear hpa
 try clear ht0
 go_enter Tryz.func38,Tryz.ntmps38;go_upto_region 1 with fail
 rw[<-HW1.out];obtain⟨x0,x1,x2,x3,x4,x5⟩:=HXC.out _ HB.out;go_wp2_with fail;refine (KAll.out _ HB.out).mono ?_;rintro e w2 ⟨rfl,hb⟩;have HB1:=Hd (HB.out.trans (hb.mono HB.out.size));clear hb;clear x0 x1 x2 x3 x4 x5;obtain⟨x0,x1,x2,x3,x4,x5⟩:=HXC.out _ HB1.out;go_wp2_with fail;clear x0 x1 x2 x3 x4 x5;refine wp_region_held_drew (S:=(fun w'=>w'.cell? ⟨w.heap.size,0,none⟩=some (.int .i64 15)/\w'.cell? ⟨w.heap.size,1,none⟩=some (.string t)/\w'.cell? ⟨w.heap.size,2,none⟩=some (.int .i64 n)/\w'.cell? ⟨w.heap.size,3,none⟩=some (.slice A ps.length c)/\w'.cell? ⟨w.heap.size,4,none⟩=some (.slice A' fs.length c')/\w'.cell? ⟨w.heap.size,5,none⟩=some (.slice A'' vs.length c''))) (by kernel_rfl) (HXC.out _ HB1.out.drew) (fun hHeld=>?_);refine Plan.start [0] ?_;refine Plan.tk (so rfl) hHeld ?_;try simp only[Act.put,Ax,Ay,Az]
 refine Plan.done ?_;refine wpAnyH_ready (rs:=[1]) (by kernel_rfl) (by simp) ?_;refine AllReadyH.cons (sd (some 115) rfl) (fun K hK=>?_) AllReadyH.nil;go_simp;refine (KPl.out _).mono ?_;rintro e w4 ⟨rfl,hb⟩;have HB2:=Hd (HB1.out.drew.trans (hb.mono HB1.out.drew.size));clear hb;go_wp2_with fail;refine hK.out _ _ (HXC.out _ HB2.out) (fun hHeld=>?_);clear hK K;try simp only[Act.put,Ax,Ay,Az]
 refine Plan.start [2,3,4,5,6] ?_
 iterate 5 (refine Plan.tk (so rfl) hHeld ?_;try simp only[Act.put,Ax,Ay,Az])
 refine Plan.done ?_;refine Plan.start [7,8,9,10,11,12] ?_
 iterate 6 (refine Plan.take (v:=undef) (so rfl) (by kernel_rfl) (by kernel_rfl) (by kernel_rfl) (fun _ _ _ h=>h) (Or.inr ⟨by rfl,rfl⟩) hHeld ?_;try simp only[Act.put,Ax,Ay,Az])
 refine Plan.done ?_;refine Plan.start [13,14] ?_
 iterate 2 (refine Plan.tk (so rfl) hHeld ?_;try simp only[Act.put,Ax,Ay,Az])
 refine Plan.done ?_;refine wpAnyH_done (by kernel_rfl) ?_ _;clear hHeld;go_wp2_with fail;go_ret
 exact⟨by rw[HVal.out];rfl,HBZ.out.trans (HB2.out.mono HBZ.out.size)⟩
theorem Y0 (t:ByteArray) (n:Int) (ps:List Ty) (fs:Bp) (vs:Bm) (hp:∀ p∈ps,Ad p) (hf:∀ f∈fs,Ad f.2.2) (hv:∀ v∈vs,∀ b∈v.2,Ad b) (hnf:fs.length=0) (hnv:vs.length=0) (hpa:ps.all Ab=true) (ht0:t.toList=[]) (hn0:n=0) (hnp:2<=ps.length):Ad (.mk 15 t n ps fs vs):=by
 refine At 15 t n ps fs vs hp hf hv fun K w A c A' c' A'' c'' w1 h=>?_;obtain⟨HXC,KAll,KPl,KNm,KOb,KBi,KOv,HREP,HCN,HBZ,HB,HS1,HX0,HW1,hlp,hlf,hlv⟩:=h;clear hp hf hv;have hform:∀ x∈ps,Ab x=true:=List.all_eq_true.1 hpa;have hflat:=Jz ps;have hcn':An ps<=1000000:=by have:=HCN.out;omega
 have hrl:=RepT.low _ _ HREP.out;obtain⟨B,d,B',d',B'',d'',he,-,hLl,-,-⟩:=hrl.inv;have hAB:A=B/\c=d:=by simp only[Ar,List.cons.injEq,Value.slice.injEq] at he;exact⟨he.2.2.2.1.1,he.2.2.2.1.2.2⟩
 obtain⟨rfl,rfl⟩:=hAB;have KUn:=Hd fun wx (hx:Below w1.heap.size w1 wx)=>Xh (hLl.later (HBZ.out.trans (hx.mono HBZ.out.size))) (fun b hb=>by have:=HBZ.out.size;have:=hx.size;omega) (fun x hx2=>by have h1:=Ev x;have h2:=hflat.2 x hx2;omega) (by have:=hflat.1;omega);rw[Jbm (M1 hpa)] at KUn;generalize hun:Bi ps=u at KUn;obtain⟨k2,s2,n2,ps2,fs2,vs2⟩:=u;have HUN:Hid (Fq (C0 (Gj ps))=.mk k2 s2 n2 ps2 fs2 vs2):=Hd (by rw[Jbm (M1 hpa),hun]);obtain⟨z,hz⟩:∃ z,Bt (.mk k2 s2 n2 ps2 fs2 vs2) (.mk 15 t n ps fs vs)=z:=⟨_,rfl⟩;have HZ:=Hd hz;have HVal:Hid (Ab (.mk 15 t n ps fs vs)=(z == 0)):=Hd (by
  have ht:t=Bk:=Es (by rw[ByteArray.toList_eq] at ht0;rw[ht0];rfl);have hfs:fs=[]:=List.eq_nil_of_length_eq_zero hnf;have hvs:vs=[]:=List.eq_nil_of_length_eq_zero hnv;subst ht hn0 hfs hvs;have h1:Ab (.mk 15 Bk 0 ps [] [])=Hi ps:=by
   rw[Am,show Ae 15=⟨false,false,false,false,2,-1,true⟩ from rfl,hpa];unfold Aj Bh;simp[Jv];omega
  rw[h1,Bool.eq_iff_iff,J3 hnp,hun,<-hz,beq_iff_eq];exact Di.symm)
 obtain⟨f1,f2,f3,f4⟩:=Fw (m:=fs.length) (n:=vs.length) (by omega) (by omega);rw[hpa] at KAll;have ep:(t.toList == [] && n == 0)=true:=by rw[ht0,hn0];rfl
 rw[ep] at KPl;have p1:decide ((2:Int)<=(ps.length:Int))=true:=decide_eq_true (by omega);have p2:decide (2<=ps.length)=true:=decide_eq_true (by omega);clear hform hflat hcn' hrl hLl he hun hz;try clear hnf
 try clear hnv
 try clear hnp
 try clear hn0
 try clear hpa
 try clear ht0
 go_enter Tryz.func38,Tryz.ntmps38;go_upto_region 1 with fail
 rw[<-HW1.out];obtain⟨x0,x1,x2,x3,x4,x5⟩:=HXC.out _ HB.out;go_wp2_with fail;refine (KAll.out _ HB.out).mono ?_;rintro e w2 ⟨rfl,hb⟩;have HB1:=Hd (HB.out.trans (hb.mono HB.out.size));clear hb;clear x0 x1 x2 x3 x4 x5;obtain⟨x0,x1,x2,x3,x4,x5⟩:=HXC.out _ HB1.out;go_wp2_with fail;clear x0 x1 x2 x3 x4 x5;refine wp_region_held_drew (S:=(fun w'=>w'.cell? ⟨w.heap.size,0,none⟩=some (.int .i64 15)/\w'.cell? ⟨w.heap.size,1,none⟩=some (.string t)/\w'.cell? ⟨w.heap.size,2,none⟩=some (.int .i64 n)/\w'.cell? ⟨w.heap.size,3,none⟩=some (.slice A ps.length c)/\w'.cell? ⟨w.heap.size,4,none⟩=some (.slice A' fs.length c')/\w'.cell? ⟨w.heap.size,5,none⟩=some (.slice A'' vs.length c''))) (by kernel_rfl) (HXC.out _ HB1.out.drew) (fun hHeld=>?_);refine Plan.start [0] ?_;refine Plan.tk (so rfl) hHeld ?_;try simp only[Act.put,Ax,Ay,Az]
 refine Plan.done ?_;refine wpAnyH_ready (rs:=[1]) (by kernel_rfl) (by simp) ?_;refine AllReadyH.cons (sd (some 115) rfl) (fun K hK=>?_) AllReadyH.nil;go_simp;refine (KPl.out _).mono ?_;rintro e w4 ⟨rfl,hb⟩;have HB2:=Hd (HB1.out.drew.trans (hb.mono HB1.out.drew.size));clear hb;go_wp2_with fail;refine hK.out _ _ (HXC.out _ HB2.out) (fun hHeld=>?_);clear hK K;try simp only[Act.put,Ax,Ay,Az]
 refine Plan.start [2,3,4,5,6,7,8,10] ?_
 iterate 8 (refine Plan.tk (so rfl) hHeld ?_;try simp only[Act.put,Ax,Ay,Az])
 refine Plan.done ?_;refine wpAnyH_ready (rs:=[9]) (by kernel_rfl) (by simp) ?_;refine AllReadyH.cons (sd (some 123) rfl) (fun K hK=>?_) AllReadyH.nil;go_simp;refine (KUn.out _ HB2.out).mono ?_;rintro e w5 ⟨rs,rfl,hr5,hb⟩;have HB3:=Hd (HB2.out.trans (hb.mono HB2.out.size));have HRS:=Hd hr5;clear hb hr5;obtain⟨Aq,cq,Ag,cg,Ah,ch,rfl,-⟩:=HRS.out.inv;simp only[Ar] at HRS ⊢;have KOrd:=Hd fun wx (hx:Below w5.heap.size w5 wx)=>J7 (.mk k2 s2 n2 ps2 fs2 vs2) _ _ (.mk 15 t n ps fs vs) wx _ _ (HRS.out.later hx) (HREP.out.later (HBZ.out.trans ((HB3.out.trans (hx.mono HB3.out.size)).mono HBZ.out.size)));try simp only[Ar] at KOrd
 rw[HZ.out] at KOrd;go_wp2_with fail;refine hK.out _ _ (HXC.out _ HB3.out) (fun hHeld=>?_);clear hK K;try simp only[Act.put,Ax,Ay,Az]
 refine wpAnyH_ready (rs:=[11]) (by kernel_rfl) (by simp) ?_;refine AllReadyH.cons (sd (some 125) rfl) (fun K hK=>?_) AllReadyH.nil;go_simp;refine (KOrd.out _ (Below.refl _ _)).mono ?_;rintro e w6 ⟨rfl,hgw⟩;have HB4:=Hd (HB3.out.trans (hgw.below.mono HB3.out.size));clear hgw;go_wp2_with fail;refine hK.out _ _ (HXC.out _ HB4.out) (fun hHeld=>?_);clear hK K;try simp only[Act.put,Ax,Ay,Az]
 refine Plan.start [12,13,14] ?_
 iterate 3 (refine Plan.tk (so rfl) hHeld ?_;try simp only[Act.put,Ax,Ay,Az])
 refine Plan.done ?_;refine wpAnyH_done (by kernel_rfl) ?_ _;clear hHeld;go_wp2_with fail;go_ret
 exact⟨by rw[HVal.out];rfl,HBZ.out.trans (HB4.out.mono HBZ.out.size)⟩
theorem FilM.but {K O:Nat->Prop} {w w':World} {m n:Nat} {V:Nat->Value} {h0:V 0=.agg #[.int .i64 0,.string ⟨#[]⟩,.int .i64 0,.slice none 0 0,.slice none 0 0,.slice none 0 0]} {L:List (ByteArray×Ty)} (h:FilM K w m n V h0 L) (hb:ButG O w w') (h1:¬ O m) (h2:¬ O (m+1)) (hk:∀ x,K x->¬ O x):FilM K w' m n V h0 L:=
 ⟨hb.up h2 h.box,h.map.keep (hb.block m h.map.lt h1),fun i hi=>by obtain⟨cs,h3,h4⟩:=h.val i hi;exact⟨cs,h3,h4.but hb fun x hx=>⟨hk x hx,hx⟩⟩⟩
structure PlF (P:Nat->Prop) (w:World) (g:Nat) (l:Bp):Prop where
 lt:g<w.heap.size
 cell:∀ y,y<l.length*8->∃ v,w.cell? ⟨g,y,none⟩=some v
 free:∀ y,w.frozen? ⟨g,y,none⟩=false
 reps:∀ i (h:i<l.length),w.cell? ⟨g,i*8,none⟩=some (.string l[i].1)/\w.cell? ⟨g,i*8+1,none⟩=some (.int .i64 l[i].2.1)/\l[i].1.size<=1000000000000000/\∃ cs,RepT P w l[i].2.2 cs/\∀ j u,cs[j]?=some u->w.cell? ⟨g,i*8+2+j,none⟩=some u
theorem PlF.weak {P P':Nat->Prop} {w:World} {g:Nat} {l:Bp} (h:PlF P w g l) (hp:∀ x,P x->P' x):PlF P' w g l:=
 ⟨h.lt,h.cell,h.free,fun i hi=>by obtain⟨h1,h2,h3,cs,h4,h5⟩:=h.reps i hi;exact⟨h1,h2,h3,cs,h4.weak hp,h5⟩⟩
theorem PlF.but {P O:Nat->Prop} {w w':World} {g:Nat} {l:Bp} (h:PlF P w g l) (hb:ButG O w w') (hg:¬ O g) (hp:∀ x,P x->¬ O x):PlF P w' g l:=
 ⟨Nat.lt_of_lt_of_le h.lt hb.size,fun y hy=>by obtain⟨v,hv⟩:=h.cell y hy;exact⟨v,hb.cell hg hv⟩,fun y=>Hf (hb.block g h.lt hg) (h.free y),
  fun i hi=>by obtain⟨h1,h2,h3,cs,h4,h5⟩:=h.reps i hi;exact⟨hb.cell hg h1,hb.cell hg h2,h3,cs,h4.but hb fun x hx=>⟨hp x hx,hx⟩,fun j u hj=>hb.cell hg (h5 j u hj)⟩⟩
theorem PlF.set {P:Nat->Prop} {w:World} {g i:Nat} {l:Bp} {t:Ty} {v0 v1 v2 v3 v4 v5:Value} (h:PlF P w g l) (hP:∀ x,P x->x≠g) (hi:i<l.length) (ht:RepT P w t [v0,v1,v2,v3,v4,v5]):PlF P (Ei w g (i*8+2) v0 v1 v2 v3 v4 v5) g (l.set i ((l[i]'hi).1,(l[i]'hi).2.1,t)):=by
 refine⟨by rw[Ka];exact h.lt,fun y hy=>?_,fun y=>?_,fun k hk=>?_⟩
 ·rw[List.length_set] at hy;exact Bn (Bn (Bn (Bn (Bn (Bn (h.cell y hy))))))
 ·simp only[Ei,World.frozen?_setCell];exact h.free y
 ·rw[List.length_set] at hk;obtain⟨h1,h2,h3,cs,h4,h5⟩:=h.reps k hk;have h6:=h4.six;have f1:(Ei w g (i*8+2) v0 v1 v2 v3 v4 v5).cell? ⟨g,k*8,none⟩=w.cell? ⟨g,k*8,none⟩:=Hz (.inr (by show k*8<i*8+2\/i*8+2+6<=k*8;omega));have f2:(Ei w g (i*8+2) v0 v1 v2 v3 v4 v5).cell? ⟨g,k*8+1,none⟩=w.cell? ⟨g,k*8+1,none⟩:=Hz (.inr (by show k*8+1<i*8+2\/i*8+2+6<=k*8+1;omega));by_cases e:i=k
  ·subst e;rw[f1,f2];simp only[List.getElem_set_self];exact⟨h1,h2,h3,_,Jm hP ht,fun j u hj=>Ps (fun x hx=>h.cell _ (by omega)) j u hj⟩
  ·rw[f1,f2];simp only[List.getElem_set_ne e];refine⟨h1,h2,h3,cs,Jm hP h4,fun j u hj=>?_⟩;have hj6:=(List.getElem?_eq_some_iff.1 hj).1;rw[Hz (.inr (by show k*8+2+j<i*8+2\/i*8+2+6<=k*8+2+j;omega))];exact h5 j u hj
theorem PlF.list {P:Nat->Prop} {w:World} {g c:Nat} {l:Bp} (h:PlF P w g l) (hc:l.length<=c) (hl:l.length<=1000000000000000):ListF (fun x=>P x\/x=g) w l (some ⟨g,0,none⟩) c:=
 ⟨g,0,⟨hc,hl,(fun h=>by cases h),fun _=>⟨rfl,.inr rfl⟩⟩,fun i hi=>by
  obtain⟨h1,h2,h3,cs,h4,h5⟩:=h.reps i hi;refine⟨by rw[Nat.zero_add];exact h1,by rw[Nat.zero_add];exact h2,h3,cs,fun j u hj=>by rw[Nat.zero_add];exact h5 j u hj,h4.weak fun b hb=>.inl hb⟩⟩
theorem Ql {K:Nat->Prop} {w:World} {b o:Nat}:∀ {l:Bp} (_:∀ i (h:i<l.length),w.cell? ⟨b,o+i*8,none⟩=some (.string l[i].1)/\w.cell? ⟨b,o+i*8+1,none⟩=some (.int .i64 l[i].2.1)/\l[i].1.size<=1000000000000000/\AtT K w l[i].2.2 b (o+i*8+2)) (n:Nat),n<=l.length ->
  ∃ news:List Value,news.length=n*8/\(∀ j u,news[j]?=some u->w.cell? ⟨b,o+j,none⟩=some u)/\(∀ u∈news,u.oneCell'=true)/\∀ i (h:i<l.length),i<n->news[i*8]?=some (.string l[i].1)/\news[i*8+1]?=some (.int .i64 l[i].2.1)/\∃ cs,RepT K w l[i].2.2 cs/\∀ j u,cs[j]?=some u->news[i*8+2+j]?=some u:=by
 intro l h n
 induction n with
 | zero=>intro _;exact⟨[],rfl,fun j u h=>by simp at h,fun u h=>by simp at h,fun i _ h=>absurd h (by omega)⟩
 | succ n ih=>
  intro hn;obtain⟨news,h1,h2,h3,h4⟩:=ih (by omega);obtain⟨hs,hi,-,cs,h5,h6⟩:=h n (by omega);have h7:=h6.six;refine⟨news++(.string (l[n]'(by omega)).1 :: .int .i64 (l[n]'(by omega)).2.1 :: cs),by rw[List.length_append,List.length_cons,List.length_cons];omega,fun j u hj=>?_,fun u hu=>?_,fun i hi2 hin=>?_⟩
  ·by_cases hlt:j<news.length
   ·rw[List.getElem?_append_left hlt] at hj;exact h2 j u hj
   ·rw[List.getElem?_append_right (by omega)] at hj;obtain⟨q,hq⟩:∃ q,q=j - news.length:=⟨_,rfl⟩;rw[<-hq] at hj;rcases q with _ | _ | q
    ·obtain rfl:Value.string _=u:=by simpa using hj
     rw[<-hs];congr 2;omega
    ·obtain rfl:Value.int .i64 _=u:=by simpa using hj
     rw[<-hi];congr 2;omega
    ·rw[List.getElem?_cons_succ,List.getElem?_cons_succ] at hj;have:=h5 _ _ hj;rw[<-this];congr 2;omega
  ·rcases List.mem_append.1 hu with hu | hu
   ·exact h3 u hu
   ·rcases List.mem_cons.1 hu with rfl | hu
    ·rfl
    ·rcases List.mem_cons.1 hu with rfl | hu
     ·rfl
     ·exact Oo h6 u hu
  ·by_cases hlt:i<n
   ·obtain⟨e1,e2,cs',h8,h9⟩:=h4 i hi2 hlt;have lift:∀ j u,news[j]?=some u->(news++(.string (l[n]'(by omega)).1 :: .int .i64 (l[n]'(by omega)).2.1 :: cs))[j]?=some u:=fun j u hj=>by
     rw[List.getElem?_append_left (List.getElem?_eq_some_iff.1 hj).1];exact hj
    exact⟨lift _ _ e1,lift _ _ e2,cs',h8,fun j u hj=>lift _ _ (h9 j u hj)⟩
   ·obtain rfl:i=n:=by omega
    refine⟨?_,?_,cs,h6,fun j u hj=>?_⟩
    ·rw[List.getElem?_append_right (by omega),show i*8 - news.length=0 from by omega];rfl
    ·rw[List.getElem?_append_right (by omega),show i*8+1 - news.length=1 from by omega];rfl
    ·rw[List.getElem?_append_right (by omega),show i*8+2+j - news.length=j+2 from by omega,List.getElem?_cons_succ,List.getElem?_cons_succ];exact hj
theorem O7 {K:Nat->Prop} {w:World} {l:Bp} {b o c:Nat} (hL:∀ i (h:i<l.length),w.cell? ⟨b,o+i*8,none⟩=some (.string l[i].1)/\w.cell? ⟨b,o+i*8+1,none⟩=some (.int .i64 l[i].2.1)/\l[i].1.size<=1000000000000000/\AtT K w l[i].2.2 b (o+i*8+2)) (hn:l.length<=1000000) :
  Calls Tryz.prog 67 #[.slice (some ⟨b,o,none⟩) l.length c] w fun e w'=>∃ g c',e=.returned (.slice (some ⟨g,0,none⟩) l.length c')/\w.heap.size<=g/\l.length<=c'/\PlF K w' g l/\Below w.heap.size w w':=by
 obtain⟨news,h1,h2,h3,h4⟩:=Ql hL l.length (Nat.le_refl _);refine (P7 ⟨b,o,none⟩ l.length c news w hn h1 h3 fun j u hj=>?_).mono ?_
 ·have e2:((⟨b,o,none⟩:Addr).add j)=⟨b,o+j,none⟩:=by unfold Addr.add;by_cases h0:j=0 <;> simp[h0]
  rw[e2];exact h2 j u hj
 ·rintro e w' ⟨g,c',rfl,hg,hgl,hc,hown,hb⟩;refine⟨g,c',rfl,hg,hc,?_,hb⟩;rcases hown.2 with ⟨hv,hz⟩ | ⟨g',cap,cur,hv,hB,hh,hle,hmax,hsz,htk⟩
  ·cases hv
  ·injection hv with hv _ _
   injection hv with hv
   injection hv with hv
   subst hv;have hcell:∀ y u,news[y]?=some u->w'.cell? ⟨g,y,none⟩=some u:=fun y u hy=>by
    rw[<-htk,List.getElem?_take] at hy
    split at hy
    ·rw[Ch hh];simpa using hy
    ·cases hy
   refine⟨hgl,fun y hy=>?_,fun y=>Lib.frozen_of_heap hh y,fun i hi=>?_⟩
   ·have hy2:y<news.length:=(by omega);exact⟨news[y],hcell y _ (List.getElem?_eq_getElem hy2)⟩
   ·obtain⟨e1,e2,cs,h5,h6⟩:=h4 i hi hi;exact⟨hcell _ _ e1,hcell _ _ e2,(hL i hi).2.2.1,cs,h5.later hb,fun j u hj=>hcell _ u (h6 j u hj)⟩
theorem Rt {w:World} {B n c z g:Nat} {T:TypeId} {xs:List Value} (h:w.ownsRow B T z (.slice (some ⟨g,0,none⟩) n c) n xs):∀ y,w.frozen? ⟨g,y,none⟩=false:=fun y=>by
 rcases h.2 with ⟨hv,hz⟩ | ⟨g',cap,cur,hv,hB,hh,r⟩
 ·cases hv
 ·injection hv with hv _ _
  injection hv with hv
  injection hv with hv
  subst hv;exact Lib.frozen_of_heap hh y
theorem P8 {K:Nat->Prop} {w:World} {l:List Ty} {A:Option Addr} {c:Nat} (hL:ListT K w l A c) (hn:l.length<=1000000) :
  Calls Tryz.prog 66 #[.slice A l.length c] w fun e w'=>∃ A' c',e=.returned (.slice A' l.length c')/\Below w.heap.size w w'/\((l=[]/\A'=none/\c'=0)\/∃ g,A'=some ⟨g,0,none⟩/\w.heap.size<=g/\l.length<=c'/\PlT K w' g l):=by
 by_cases h0:0<l.length
 ·obtain⟨b,o,rfl,-,hat⟩:=hL.at h0;refine (P9 hat hn).mono ?_;rintro e w' ⟨g,c',rfl,h1,h2,h3,h4⟩;exact⟨_,c',rfl,h4,.inr ⟨g,rfl,h1,h2,h3⟩⟩
 ·have hl:l=[]:=List.eq_nil_of_length_eq_zero (by omega);subst hl;obtain⟨b,o,hrow,-⟩:=hL;rcases A with _ | ad
  ·obtain rfl:=hrow.none rfl;refine (Ja w).mono ?_;rintro e w' ⟨rfl,rfl⟩;exact⟨none,0,rfl,Below.refl _ _,.inl ⟨rfl,rfl,rfl⟩⟩
  ·refine (L8 ad 0 c [] w (by omega) rfl (fun u hu=>by cases hu) fun j u hj=>by simp at hj).mono ?_;rintro e w' ⟨g,c',rfl,hg,hgl,hc,hown,hb⟩;exact⟨_,c',rfl,hb,.inr ⟨g,rfl,hg,hc,⟨hgl,fun y hy=>absurd hy (by simp),Rt hown,fun i hi=>absurd hi (by simp)⟩⟩⟩
theorem No {K:Nat->Prop} {w:World} {l:Bp} {A:Option Addr} {c:Nat} (hL:ListF K w l A c) (hn:l.length<=1000000) :
  Calls Tryz.prog 67 #[.slice A l.length c] w fun e w'=>∃ A' c',e=.returned (.slice A' l.length c')/\Below w.heap.size w w'/\((l=[]/\A'=none/\c'=0)\/∃ g,A'=some ⟨g,0,none⟩/\w.heap.size<=g/\l.length<=c'/\PlF K w' g l):=by
 by_cases h0:0<l.length
 ·obtain⟨b,o,rfl,-,hat⟩:=hL.at h0;refine (O7 hat hn).mono ?_;rintro e w' ⟨g,c',rfl,h1,h2,h3,h4⟩;exact⟨_,c',rfl,h4,.inr ⟨g,rfl,h1,h2,h3⟩⟩
 ·have hl:l=[]:=List.eq_nil_of_length_eq_zero (by omega);subst hl;obtain⟨b,o,hrow,-⟩:=hL;rcases A with _ | ad
  ·obtain rfl:=hrow.none rfl;refine (O8 w).mono ?_;rintro e w' ⟨rfl,rfl⟩;exact⟨none,0,rfl,Below.refl _ _,.inl ⟨rfl,rfl,rfl⟩⟩
  ·refine (P7 ad 0 c [] w (by omega) rfl (fun u hu=>by cases hu) fun j u hj=>by simp at hj).mono ?_;rintro e w' ⟨g,c',rfl,hg,hgl,hc,hown,hb⟩;exact⟨_,c',rfl,hb,.inr ⟨g,rfl,hg,hc,⟨hgl,fun y hy=>absurd hy (by simp),Rt hown,fun i hi=>absurd hi (by simp)⟩⟩⟩
theorem Jo {n:Int} (h:0<=n) (h':n<9223372036854775808):wrap64 n=n:=by
 have e:IntKind.i64.wrap n=wrap64 n:=by unfold wrap64;exact IntKind.wrap_i64 n
 rw[<-e];simp[IntKind.wrap,IntKind.bits,IntKind.signed];omega
theorem Jb2 {l:List ByteArray} {i:Nat} (h:i<l.length) (x:ByteArray):cI (l.drop i) x=cI (l.drop (i+1)) x+(if l[i]=x then 1 else 0):=by
 rw[List.drop_eq_getElem_cons h,Jb1]
theorem Zo (x:ByteArray) {l:List Ty} {i:Nat} (h:i<l.length):Hr x (l.take (i+1))=(Hr x (l.take i) || Bl x l[i]):=by
 unfold Hr;rw[List.take_succ_eq_append_getElem h,List.any_append];simp
theorem D5 {K:Nat->Prop} {U N:List ByteArray} {g mb mf:Nat} {w:World} {c:ByteArray->Nat} {S:ByteArray->Bool} {AN:Option Addr} {cN:Nat} {ps:List Ty} {A:Option Addr} {cp:Nat} {B:Nat} (hN:ListS w N AN) (hAN:∀ b o,AN=some ⟨b,o,none⟩->b≠mb/\b≠mf) (hL:ListT K w ps A cp) (hK:∀ x,K x->x<w.heap.size/\x≠mb/\x≠mf) (hS:SeS U w g mb mf c S) (hNU:∀ x∈N,x∈U/\x.size<=maxLen) (hU:U.length<maxLen)
  (hB:∀ x,c x+cI N x<=B) (hB2:B<=9000000000000000000) (hbd:∀ p∈ps,(∀ x∈Ee p,x∈U)/\(Ab p=true/\Da p=true)/\B+Ai p*1000000000000002<=9000000000000000000) (ih:∀ p∈ps,Lz p) :
  Calls Tryz.prog 187 #[.pointer (some ⟨g,0,none⟩),.slice AN N.length cN,.slice A ps.length cp] w (Iq U g mb mf w c S fun x=>!Cl N x && Hr x ps):=by
 have HN:=Hd hN;have HAN:=Hd hAN;have HL:=Hd hL;have HK:=Hd hK;have HS:=Hd hS;have HNU:=Hd hNU;have HU:=Hd hU;have HB:=Hd hB;have HB2:=Hd hB2;have HBD:=Hd hbd;have HIH:=Hd ih;have HNL:Hid (N.length<=1000000000000000):=Hd (by obtain⟨_,_,_,h,_⟩:=hN;exact h);have HPL:=Hd hL.short;have HNA:Hid (∀ wx,ButG (fun x=>x=mb\/x=mf) w wx->ListS wx N AN):=Hd fun wx hx=>hN.but hx fun b o e h=>h.elim (hAN b o e).1 (hAN b o e).2;clear hN hAN hL hK hS hNU hU hB hB2 hbd ih;go_enter Tryz.func187,Tryz.ntmps187;go_wp2_with fail
 go_loopw [13] (fun v wr=>∃ i:Nat,i<=N.length/\v=.int .i64 i/\SeS U wr g mb mf (fun x=>c x+cI (N.take i) x) S/\ButG (fun x=>x=mb\/x=mf) w wr) (fun v _=>N.length - (intOf v).toNat)
 case atStart=>exact⟨0,Nat.zero_le _,rfl,HS.out.same (fun x=>by simp[cI]) (fun _=>rfl),ButG.refl _ _⟩
 case round=>
  obtain⟨i,hi,rfl,hst,hbw⟩:=hrel;have hnl:=HNL.out;by_cases hin:i<N.length
  ·have t1:decide ((i:Int)<(N.length:Int))=true:=by simp;omega
   have wr2:wrap64 ((i:Int)+1)=((i+1:Nat):Int):=Ao (by omega);have HM:=Hd (Ba hin);have HIn:Hid (i+1<=N.length):=Hd hin;have HBW:=Hd hbw;obtain⟨nb,no,hA0,-,hat⟩:=HNA.out wr hbw;have hA:=hA0 (by omega);subst hA;have z0:=hat i hin;have hle:∀ x,cI (N.take (i+1)) x=cI (N.take i) x+(if (N[i]'hin)=x then 1 else 0):=fun x=>by rw[List.take_succ_eq_append_getElem hin,Jb3]
   have hu:=HNU.out _ (List.getElem_mem hin);have hmore:c (N[i]'hin)+(cI (N.take i) (N[i]'hin)+1)<=9000000000000000000:=by
    have h1:=HB.out (N[i]'hin);have h2:=HB2.out;have h3:cI (N.take (i+1)) (N[i]'hin)<=cI N (N[i]'hin):=(List.take_sublist (i+1) N).countP_le;rw[hle,if_pos rfl] at h3;omega
   generalize (N[i]'hin)=s at z0 hle hu hmore;obtain⟨v1,hv1⟩:∃ v1,v1=c s+cI (N.take i) s:=⟨_,rfl⟩;obtain⟨v2,hv2⟩:∃ v2,v2=v1+1:=⟨_,rfl⟩;have lk:(Instr.lookup 185 (.map (some mb)) (.string s) false).run Tryz.prog wr=.ok (.int .i64 (v1:Int)) wr:=by rw[hv1];exact hst.look s hu.2
   obtain⟨y0,-⟩:=hst.cell;have wr3:wrap64 ((v1:Int)+1)=(v2:Int):=by rw[Jo (by omega) (by omega)];omega
   obtain⟨w3,hup,hs3,hb3⟩:=hst.put HU.out s hu.1 hu.2 v2;have HS3:Hid (SeS U w3 g mb mf (fun x=>c x+cI (N.take (i+1)) x) S):=Hd (hs3.same (fun x=>by
    rw[hle];by_cases e:s=x
    ·subst e;rw[if_pos rfl,if_pos rfl];omega
    ·rw[if_neg e,if_neg e];rfl) fun _=>rfl)
   have HB3:Hid (ButG (fun x=>x=mb\/x=mf) w w3):=Hd (hbw.trans hb3 fun x h=>.inl (.inl h));have i1:(0:Int)<=(i:Int):=by omega
   have i2:(i:Int)<(N.length:Int):=by omega
   clear hi hst hbw hat hA0 hle hu hmore hs3 hb3 hnl hv1 hv2;go_wp2_with fail;refine⟨⟨i+1,HIn.out,by first | rfl | rw[wr2],HS3.out,HB3.out⟩,?_⟩;first | exact HM.out | (rw[wr2];exact HM.out)
  ·have t1:decide ((i:Int)<(N.length:Int))=false:=by simp;omega
   obtain rfl:i=N.length:=by omega
   rw[List.take_length] at hst;have HST:=Hd hst;have HBW:=Hd hbw;clear hi hin hst hbw hnl;go_wp2_with fail
   go_loopw [27] (fun v wx=>∃ i:Nat,i<=ps.length/\v=.int .i64 i/\SeS U wx g mb mf (fun x=>c x+cI N x) (fun x=>S x || (decide (c x+cI N x=0) && Hr x (ps.take i)))/\ButG (fun x=>x=mb\/x=mf) w wx) (fun v _=>ps.length - (intOf v).toNat)
   case atStart=>exact⟨0,Nat.zero_le _,rfl,HST.out.same (fun _=>rfl) (fun x=>by simp[Hr]),HBW.out⟩
   case round=>
    clear HST HBW;obtain⟨i,hi,rfl,hst,hbw⟩:=hrel;have hpl:=HPL.out;by_cases hin:i<ps.length
    ·have t1:decide ((i:Int)<(ps.length:Int))=true:=(by simp;omega);have wr2:wrap64 ((i:Int)+1)=((i+1:Nat):Int):=Ao (by omega);have HM:=Hd (Ba hin);have HIn:Hid (i+1<=ps.length):=Hd hin;have HBW:=Hd hbw;have hk2:∀ x,K x->¬ (x=mb\/x=mf)/\K x:=fun x hx=>⟨fun e=>e.elim (HK.out x hx).2.1 (HK.out x hx).2.2,hx⟩;obtain⟨tb,tq,hA,hKb,hat⟩:=(HL.out.but hbw hk2).at (Nat.lt_of_le_of_lt (Nat.zero_le i) hin);subst hA;have hp:=hat i hin;have hbd:=HBD.out _ (List.getElem_mem hin);have hih:=HIH.out _ (List.getElem_mem hin);have hnx:=fun x=>Zo x hin;generalize (ps[i]'hin)=p at hp hbd hih hnx;have KW:=Hd (hih K U g mb mf _ tb (tq+i*6) _ _ hp ⟨(HK.out tb hKb).2.1,(HK.out tb hKb).2.2⟩ (fun x hx=>⟨Nat.lt_of_lt_of_le (HK.out x hx).1 hbw.size,(HK.out x hx).2⟩) hst hbd.1 HU.out (fun x=>by have h1:=HB.out x;have h2:=hbd.2.2;omega) hbd.2.1.1 hbd.2.1.2);have HNX:=Hd hnx;have i1:(0:Int)<=(i:Int):=(by omega);have i2:(i:Int)<(ps.length:Int):=(by omega);clear hi hst hbw hat hp hbd hih hnx hpl hKb hk2;go_wp2_with fail;refine KW.out.mono ?_;rintro e w3 ⟨rfl,hs3,hb3⟩;have HS3:Hid (SeS U w3 g mb mf (fun x=>c x+cI N x) (fun x=>S x || (decide (c x+cI N x=0) && Hr x (ps.take (i+1))))):=Hd (hs3.same (fun _=>rfl) fun x=>by
      rw[HNX.out];dsimp only;generalize decide (c x+cI N x=0)=d1;generalize Hr x (ps.take i)=d2;generalize Bl x p=d3
      cases S x <;> cases d1 <;> cases d2 <;> cases d3 <;> rfl)
     have HB3:Hid (ButG (fun x=>x=mb\/x=mf) w w3):=Hd (HBW.out.trans hb3 fun x h=>.inl h);clear hs3 hb3 KW HNX;go_wp2_with fail;refine⟨⟨i+1,HIn.out,by first | rfl | rw[wr2],HS3.out,HB3.out⟩,?_⟩;first | exact HM.out | (rw[wr2];exact HM.out)
    ·have t1:decide ((i:Int)<(ps.length:Int))=false:=(by simp;omega);obtain rfl:i=ps.length:=by omega
     rw[List.take_length] at hst;have HST:=Hd hst;have HBW:=Hd hbw;clear hi hin hst hbw hpl;go_wp2_with fail
     go_loopw [38] (fun v wy=>∃ i:Nat,i<=N.length/\v=.int .i64 i/\SeS U wy g mb mf (fun x=>c x+cI (N.drop i) x) (fun x=>S x || (decide (c x+cI N x=0) && Hr x ps))/\ButG (fun x=>x=mb\/x=mf) w wy) (fun v _=>N.length - (intOf v).toNat)
     case atStart=>exact⟨0,Nat.zero_le _,rfl,HST.out.same (fun x=>by simp) (fun _=>rfl),HBW.out⟩
     case round=>
      clear HST HBW;obtain⟨i,hi,rfl,hst,hbw⟩:=hrel;have hnl:=HNL.out;by_cases hin:i<N.length
      ·have t1:decide ((i:Int)<(N.length:Int))=true:=(by simp;omega);have wr2:wrap64 ((i:Int)+1)=((i+1:Nat):Int):=Ao (by omega);have HM:=Hd (Ba hin);have HIn:Hid (i+1<=N.length):=Hd hin;have HBW:=Hd hbw;obtain⟨nb,no,hA0,-,hat⟩:=HNA.out _ hbw;have hA:=hA0 (by omega);subst hA;have z0:=hat i hin;have hle:=fun x=>Jb2 hin x;have hu:=HNU.out _ (List.getElem_mem hin);have hmore:c (N[i]'hin)+cI (N.drop i) (N[i]'hin)<=9000000000000000000:=by
        have h1:=HB.out (N[i]'hin);have h2:=HB2.out;have h3:cI (N.drop i) (N[i]'hin)<=cI N (N[i]'hin):=(List.drop_sublist i N).countP_le;omega
       generalize (N[i]'hin)=s at z0 hle hu hmore;have hone:1<=cI (N.drop i) s:=(by rw[hle,if_pos rfl];omega);obtain⟨v1,hv1⟩:∃ v1,v1=c s+cI (N.drop i) s:=⟨_,rfl⟩;obtain⟨v2,hv2⟩:∃ v2,v2=v1 - 1:=⟨_,rfl⟩;have lk:(Instr.lookup 185 (.map (some mb)) (.string s) false).run Tryz.prog wr=.ok (.int .i64 (v1:Int)) wr:=(by rw[hv1];exact hst.look s hu.2);obtain⟨y0,-⟩:=hst.cell;have wr3:wrap64 ((v1:Int) - 1)=(v2:Int):=(by rw[Jo (by omega) (by omega)];omega);obtain⟨w3,hup,hs3,hb3⟩:=hst.put HU.out s hu.1 hu.2 v2;have HS3:Hid (SeS U w3 g mb mf (fun x=>c x+cI (N.drop (i+1)) x) (fun x=>S x || (decide (c x+cI N x=0) && Hr x ps))):=Hd (hs3.same (fun x=>by
        by_cases e:s=x
        ·subst e;have h9:=hle s;rw[if_pos rfl] at h9 ⊢;omega
        ·have h9:=hle x;rw[if_neg e] at h9 ⊢;omega) fun _=>rfl)
       have HB3:Hid (ButG (fun x=>x=mb\/x=mf) w w3):=Hd (hbw.trans hb3 fun x h=>.inl (.inl h));have i1:(0:Int)<=(i:Int):=(by omega);have i2:(i:Int)<(N.length:Int):=(by omega);clear hi hst hbw hat hA0 hle hu hmore hs3 hb3 hnl hone hv1 hv2;go_wp2_with fail;refine⟨⟨i+1,HIn.out,by first | rfl | rw[wr2],HS3.out,HB3.out⟩,?_⟩;first | exact HM.out | (rw[wr2];exact HM.out)
      ·have t1:decide ((i:Int)<(N.length:Int))=false:=(by simp;omega);obtain rfl:i=N.length:=by omega
       have HST:Hid (SeS U wr g mb mf c (fun x=>S x || (decide (c x=0) && (!Cl N x && Hr x ps)))):=Hd (hst.same (fun x=>by simp[cI]) fun x=>by
        have h:=Je8 N x;by_cases h1:c x=0
        ·rw[h1,Nat.zero_add,h];simp
        ·have:¬ (c x+cI N x=0):=by omega
         simp[h1])
       have HBW:=Hd hbw;clear hi hin hst hbw hnl;go_wp2_with fail
       go_end0
       exact⟨rfl,HST.out,HBW.out⟩
theorem Pe {s:Shp} {t:ByteArray} {n:Int} {np nf nv:Nat} (h:Aj s t n np nf nv=true):(s.f=false->nf=0)/\(s.v=false->nv=0)/\(s.hi=0->np=0):=by
 unfold Aj at h;simp only[Bool.and_eq_true,Bool.not_eq_true',Bool.or_eq_false_iff,Bool.or_eq_true,decide_eq_true_eq,beq_iff_eq] at h;obtain⟨⟨⟨⟨h1,h2⟩,h3⟩,h4⟩,h5,h6⟩:=h;refine⟨fun e=>?_,fun e=>?_,fun e=>by omega⟩
 ·rw[e] at h3;have:decide (0<nf)=false:=by simpa using h3
  have:=of_decide_eq_false this;omega
 ·rw[e] at h4;have:decide (0<nv)=false:=by simpa using h4
  have:=of_decide_eq_false this;omega
theorem D8 {k:Int} {t:ByteArray} {n:Int} {ps:List Ty} {fs:Bp} {vs:Bm} (h:Ab (.mk k t n ps fs vs)=true):(k≠14->fs.length=0)/\(k≠13->vs.length=0)/\(k=14->ps.length=0)/\(k=22->ps.length=0):=by
 obtain⟨h1,h2,h3⟩:=Pe (Db h);exact⟨fun e=>h1 (U0 e),fun e=>h2 (Lq e),fun e=>h3 (by subst e;rfl),fun e=>h3 (by subst e;rfl)⟩
theorem Q8 {t:Ty} (h:D9 t=true):Ab t=true/\Ai t<=4096:=by
 unfold D9 at h;simp only[Bool.and_eq_true,decide_eq_true_eq] at h;exact⟨h.2,h.1⟩
end Go.Proofs.YtlpfpehegddcfaaGreatDoor
