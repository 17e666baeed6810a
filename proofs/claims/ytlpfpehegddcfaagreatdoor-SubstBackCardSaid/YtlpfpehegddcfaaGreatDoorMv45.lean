import Derived.Test.YtlpfpehegddcfaaGreatDoorMv38
import Derived.Test.YtlpfpehegddcfaaGreatDoorMv44
namespace Go.Proofs.YtlpfpehegddcfaaGreatDoor
set_option maxRecDepth 100000
set_option maxHeartbeats 64000000
open Go.RowKit
theorem Ln {k:Int} {t:ByteArray} {n:Int} {ps:List Ty} {fs:Bp} {vs:Bm} {p:Ty} {x:ByteArray} (h:p∈ps) (hx:x∈Fi p):x∈Fi (.mk k t n ps fs vs):=by
 rw[Iz];exact List.mem_cons_of_mem _ (List.mem_append_right _ (List.mem_append_right _ (List.mem_append_left _ (List.mem_flatten.2 ⟨_,List.mem_map_of_mem h,hx⟩))))
theorem Mx {k:Int} {t:ByteArray} {n:Int} {ps:List Ty} {fs:Bp} {vs:Bm} {f:ByteArray×Int×Ty} {x:ByteArray} (h:f∈fs) (hx:x∈Fi f.2.2):x∈Fi (.mk k t n ps fs vs):=by
 rw[Iz];exact List.mem_cons_of_mem _ (List.mem_append_right _ (List.mem_append_right _ (List.mem_append_right _ (List.mem_flatten.2 ⟨_,List.mem_map_of_mem h,hx⟩))))
theorem Ro {k:Int} {t:ByteArray} {n:Int} {ps:List Ty} {fs:Bp} {vs:Bm} {v:ByteArray×List Ty} {b:Ty} {x:ByteArray} (h:v∈vs) (hb:b∈v.2) (hx:x∈Fi b):x∈Fi (.mk k t n ps fs vs):=by
 rw[Iz];exact List.mem_cons_of_mem _ (List.mem_append_right _ (List.mem_append_left _ (List.mem_flatten.2 ⟨_,List.mem_map_of_mem h,List.mem_flatten.2 ⟨_,List.mem_map_of_mem hb,hx⟩⟩)))
theorem Po {k:Int} {t:ByteArray} {n:Int} {ps:List Ty} {fs:Bp} {vs:Bm}:t∈Fi (.mk k t n ps fs vs):=by
 rw[Iz];exact List.mem_cons_self
theorem Jeu {k:Int} {t:ByteArray} {n:Int} {ps:List Ty} {fs:Bp} {vs:Bm} {v:ByteArray×List Ty} (h:v∈vs):v.1∈Fi (.mk k t n ps fs vs):=by
 rw[Iz];exact List.mem_cons_of_mem _ (List.mem_append_left _ (List.mem_map_of_mem h))
theorem Jaa (t:Ty):∀ x∈Aw t,x∈Fi t:=by
 refine Ty.ind (C:=fun t=>∀ x∈Aw t,x∈Fi t) (fun k t n ps fs vs hp hf hv x hx=>?_) t;rw[Dh] at hx
 split at hx
 ·rw[List.mem_singleton] at hx;exact hx ▸ Po
 ·rcases List.mem_append.1 hx with hx | hx
  ·obtain⟨p,h,hx⟩:=Iy hx;exact Ln h (hp p h x hx)
  ·obtain⟨L,hL,hx⟩:=List.mem_flatten.1 hx;obtain⟨f,h,rfl⟩:=List.mem_map.1 hL;exact Mx h (hf f h x hx)
theorem Jfb (t:Ty):∀ x∈Ge t,x∈Fi t:=by
 refine Ty.ind (C:=fun t=>∀ x∈Ge t,x∈Fi t) (fun k t n ps fs vs hp hf hv x hx=>?_) t;rw[Eo] at hx;rcases List.mem_append.1 hx with hx | hx
 ·split at hx
  ·rw[List.mem_singleton] at hx;exact hx ▸ Po
  ·cases hx
 rcases List.mem_append.1 hx with hx | hx
 ·obtain⟨L,hL,hx⟩:=List.mem_flatten.1 hx;obtain⟨v,h,rfl⟩:=List.mem_map.1 hL;obtain⟨M,hM,hx⟩:=List.mem_flatten.1 hx;obtain⟨b,hb,rfl⟩:=List.mem_map.1 hM;exact Ro h hb (hv v h b hb x hx)
 rcases List.mem_append.1 hx with hx | hx
 ·obtain⟨L,hL,hx⟩:=List.mem_flatten.1 hx;obtain⟨p,h,rfl⟩:=List.mem_map.1 hL;exact Ln h (hp p h x hx)
 ·obtain⟨L,hL,hx⟩:=List.mem_flatten.1 hx;obtain⟨f,h,rfl⟩:=List.mem_map.1 hL;exact Mx h (hf f h x hx)
theorem Jd9 (t:Ty):∀ x∈Ee t,x∈Fi t:=by
 refine Ty.ind (C:=fun t=>∀ x∈Ee t,x∈Fi t) (fun k t n ps fs vs hp hf hv x hx=>?_) t;rw[Ht] at hx;rcases List.mem_cons.1 hx with rfl | hx
 ·exact Po
 rcases List.mem_append.1 hx with hx | hx
 ·obtain⟨v,h,rfl⟩:=List.mem_map.1 hx;exact Jeu h
 rcases List.mem_append.1 hx with hx | hx
 ·unfold Df at hx
  cases e:ps[1]? with
  | none=>rw[e] at hx;cases hx
  | some p=>
   rw[e] at hx;exact Ln (List.mem_of_getElem? e) (Jaa p x hx)
 rcases List.mem_append.1 hx with hx | hx
 ·obtain⟨L,hL,hx⟩:=List.mem_flatten.1 hx;obtain⟨v,h,rfl⟩:=List.mem_map.1 hL;obtain⟨M,hM,hx⟩:=List.mem_flatten.1 hx;obtain⟨b,hb,rfl⟩:=List.mem_map.1 hM;exact Ro h hb (hv v h b hb x hx)
 rcases List.mem_append.1 hx with hx | hx
 ·obtain⟨L,hL,hx⟩:=List.mem_flatten.1 hx;obtain⟨p,h,rfl⟩:=List.mem_map.1 hL;exact Ln h (hp p h x hx)
 ·obtain⟨L,hL,hx⟩:=List.mem_flatten.1 hx;obtain⟨f,h,rfl⟩:=List.mem_map.1 hL;exact Mx h (hf f h x hx)
theorem S6 (f:ByteArray):Bo (f++⟨#[39]⟩)=Bo f:=by
 have hz:(f++(⟨#[39]⟩:ByteArray)).size=f.size+1:=by rw[ByteArray.size_append];rfl
 have h39:Cz (f++⟨#[39]⟩) f.size=39:=by
  unfold Cz;have h:(f++(⟨#[39]⟩:ByteArray)).data=f.data++#[39]:=ByteArray.data_append;rw[h];have h2:(f.data++#[39])[f.size]?=some 39:=by
   have e:f.size=f.data.size:=rfl;rw[e,Array.getElem?_append_right (Nat.le_refl _),Nat.sub_self];rfl
  rw[getElem!_def,h2];rfl
 unfold Bo;rw[Pw hz h39]
 congr 2
 apply ByteArray.ext;rw[ByteArray.data_extract,ByteArray.data_append];have e:f.size=f.data.size:=rfl;rw[e,Array.extract_append_left];exact Array.extract_size
def Jfe:ByteArray:=⟨#[110,111,119,104,101,114,101]⟩
theorem Z9:Bo Jfe=true:=by kernel_rfl
theorem back_all {K:Nat->Prop} {w:World} {t:Ty} {cs:List Value} {s:ByteArray} (hr0:RepT K w t cs) (hbig:I4 t) (hs:s.size<=140737488351232) :
  Calls Tryz.prog 5 #[.agg cs.toArray,.string s] w fun e w'=>e=.returned (.bool true)/\Below w.heap.size w w':=by
 have hr:=RepT.low _ _ hr0;clear hr0;obtain⟨g,hg⟩:∃ g,g=w.heap.size:=⟨_,rfl⟩;obtain⟨w1,hw1⟩:∃ x,x=w.alloc (.cells cs.toArray 26):=⟨_,rfl⟩;have hb1:Below w.heap.size w w1:=by rw[hw1];exact (Below.refl _ _).alloc (Nat.le_refl _) _
 have hx1:w1.heap[g]?=some (.cells cs.toArray 26 (0,0)):=by rw[hw1,hg];exact heap_alloc_new w _
 have hs1:w1.heap.size=g+1:=by rw[hw1,hg];simp
 have HT:Hid (∀ wx,Below w1.heap.size w1 wx->RepT (fun b=>b<w.heap.size) wx t cs):=Hd fun wx hx=>(hr.later hb1).later hx;have HX:=Hd fun wx (hx:Below w1.heap.size w1 wx)=>Bc hx (by omega) hx1;have HAW:=Hd Jbv;have HB1:=Hd hb1;have HG:=Hd hg;have HW1:=Hd hw1;have HS1:=Hd hs1;have HBIG:=Hd hbig;have HS:=Hd hs;have HKN:=Hd (Ut t);have HKH:=Hd (Xa t);have HKO:=Hd (J7 t);have KF0:=fun wx (hx:Below w1.heap.size w1 wx)=>Sr (HT.out wx hx);have KI0:=fun wx=>Jj s wx (Nat.le_trans hs (by decide));have HF0:Hid (D9 t=true->Ab t=true):=Hd fun h=>(Q8 h).1;have hcn:Cg (Ai t)<=4097:=Nat.min_le_right _ _;have HCN:Hid (Cg (Ai t)<=1000->Ai t<=1000):=Hd fun h=>by unfold Cg at h;omega
 obtain⟨cn,hcn2⟩:∃ x,x=Cg (Ai t):=⟨_,rfl⟩;rw[<-hcn2] at hcn HCN;have HCQ:=Hd hcn2;obtain⟨fq,hfq⟩:∃ x,x=D9 t:=⟨_,rfl⟩;rw[<-hfq] at KF0 HF0;obtain⟨nq,hnq⟩:∃ x,x=Bo s:=⟨_,rfl⟩;rw[<-hnq] at KI0;have HNQ:=Hd hnq;have KF:=Hd KF0;have KI:=Hd KI0;have HTR:Hid (∃ u,u=t):=Hd ⟨t,rfl⟩;obtain⟨k,s2,n,ps,fs,vs⟩:=t;obtain⟨A,c,B,d,C,e,rfl,-⟩:=hr.inv;simp only[Ar] at HX HT KF HW1 ⊢;clear hr hbig hs hg hw1 hb1 hx1 hs1 KF0 KI0 hcn2 hfq hnq HTR;go_enter Tryz.func5,Tryz.ntmps5;go_upto_region 1 with fail
 rw[<-HW1.out,<-HG.out];go_wp2_with fail;refine (HAW.out w1).mono ?_;rintro r w2 ⟨rfl,hb2⟩;have HB2:=Hd hb2;clear hb2;obtain⟨x0,x1,x2,x3,x4,x5⟩:=Fs (HX.out w2 HB2.out);go_wp2_with fail;refine (HKN.out _ w2 _ (HT.out w2 HB2.out)).mono ?_;rintro r w3 ⟨rfl,hb3⟩;rw[<-HCQ.out];have HB3:Hid (Below w1.heap.size w1 w3):=Hd (HB2.out.trans (hb3.below.mono HB2.out.size));clear hb3 x0 x1 x2 x3 x4 x5;by_cases hc:cn<=1000
 case neg=>
  have t1:decide ((1000:Int)<(cn:Int))=true:=by simp;omega
  go_wp2_with fail;refine (HAW.out w3).mono ?_;rintro r w4 ⟨rfl,hb4⟩;have HB4:Hid (Below w1.heap.size w1 w4):=Hd (HB3.out.trans (hb4.mono HB3.out.size));clear hb4;go_wp2_with fail;go_ret
  exact⟨rfl,HB1.out.trans (HB4.out.mono HB1.out.size)⟩
 have t1:decide ((1000:Int)<(cn:Int))=false:=by simp;omega
 have HC:=Hd (HCN.out hc);clear hc;obtain⟨x0,x1,x2,x3,x4,x5⟩:=Fs (HX.out w3 HB3.out);go_wp2_with fail;refine (KF.out w3 HB3.out).mono ?_;rintro r w4 ⟨rfl,hb4⟩;have HB4:Hid (Below w1.heap.size w1 w4):=Hd (HB3.out.trans (hb4.mono HB3.out.size));clear hb4 x0 x1 x2 x3 x4 x5 t1
 cases fq with
 | false=>
  go_wp2_with fail;refine (HAW.out w4).mono ?_;rintro r w5 ⟨rfl,hb5⟩;have HB5:Hid (Below w1.heap.size w1 w5):=Hd (HB4.out.trans (hb5.mono HB4.out.size));clear hb5;go_wp2_with fail;go_ret
  exact⟨rfl,HB1.out.trans (HB5.out.mono HB1.out.size)⟩
 | true=>
  go_wp2_with fail;refine (KI.out w4).mono ?_;rintro r w5 ⟨rfl,hb5⟩;have HB5:Hid (Below w1.heap.size w1 w5):=Hd (HB4.out.trans (hb5.mono HB4.out.size));clear hb5
  cases nq with
  | false=>
   go_wp2_with fail;refine (HAW.out w5).mono ?_;rintro r w6 ⟨rfl,hb6⟩;have HB6:Hid (Below w1.heap.size w1 w6):=Hd (HB5.out.trans (hb6.mono HB5.out.size));clear hb6;go_wp2_with fail;go_ret
   exact⟨rfl,HB1.out.trans (HB6.out.mono HB1.out.size)⟩
  | true=>
   have HFM:=Hd (HF0.out (by trivial));go_wp2_with fail
   go_loopw [5] (fun v wr=>∃ f:ByteArray,v=.string f/\Bo f=true/\f.size<=140737488351233/\Below w1.heap.size w1 wr) (fun v _=>match v with | .string f=>140737488351234 - f.size | _=>0)
   case atStart=>exact⟨Jfe,rfl,Z9,by decide,HB5.out⟩
   case round=>
    obtain⟨f,rfl,hnf,hsf,hb⟩:=hrel;have HB:=Hd hb;have HNF:=Hd hnf;have HSF:=Hd hsf;have HQ:Hid (f.size<=140737488351232->Bo (f++⟨#[39]⟩)=true/\(f++(⟨#[39]⟩:ByteArray)).size<=140737488351233/\140737488351234 - (f++(⟨#[39]⟩:ByteArray)).size<140737488351234 - f.size):=Hd fun h=>by
     have hz:(f++(⟨#[39]⟩:ByteArray)).size=f.size+1:=(by rw[ByteArray.size_append];rfl);exact⟨by rw[S6];exact hnf,by omega,by omega⟩
    clear hb hnf hsf;obtain⟨x0,x1,x2,x3,x4,x5⟩:=Fs (HX.out _ HB.out);go_wp2_with fail;refine (HKH.out _ wr _ f (HT.out wr HB.out)).mono ?_;rintro r w6 ⟨rfl,hb6⟩;have HB6:Hid (Below w1.heap.size w1 w6):=Hd (HB.out.trans (hb6.mono HB.out.size));clear hb6 x0 x1 x2 x3 x4 x5;obtain⟨q,hq⟩:∃ q,q=Cl (Fi (.mk k s2 n ps fs vs)) f:=⟨_,rfl⟩;rw[<-hq];have HIN:Hid (q=Cl (Fi (.mk k s2 n ps fs vs)) f):=Hd hq;clear hq
    cases q with
    | true=>
     have HQ2:=Hd (HQ.out (by
      have h:=HBIG.out.2 f (Cy.1 HIN.out.symm);exact h))
     go_wp2_with fail
     ·have h1:=HSF.out;omega
     exact⟨⟨_,rfl,HQ2.out.1,HQ2.out.2.1,HB6.out⟩,HQ2.out.2.2⟩
    | false=>
     by_cases hfs:f=s
     ·have te:(f.toList == s.toList)=true:=(by rw[hfs];simp);have HQ2:=Hd (HQ.out (by rw[hfs];exact HS.out));go_wp2_with fail
      ·have h1:=HSF.out;have h2:=HS.out;omega
      rw[<-hfs];exact⟨⟨_,rfl,HQ2.out.1,HQ2.out.2.1,HB6.out⟩,HQ2.out.2.2⟩
     have te:(f.toList == s.toList)=false:=(by rw[eqT];exact decide_eq_false hfs);have hno:f ∉ Fi (.mk k s2 n ps fs vs):=fun e=>by
      have h:=Cy.2 e;rw[<-HIN.out] at h
      cases h
     have hcap:Dm s (Bg f) (.mk k s2 n ps fs vs)=true:=L6 _ fun y hy h=>by
      rw[Mk,decide_eq_true_eq] at h;subst h;exact absurd (Jd9 _ _ hy) hno
     have hsz:f.size<=1000000000000000:=Nat.le_trans HSF.out (by decide);have hss:s.size<=1000000000000000:=Nat.le_trans HS.out (by decide);have hk1:f ∉ Ge (.mk k s2 n ps fs vs):=fun e=>hno (Jfb _ _ e);have hk2:f ∉ Ee (.mk k s2 n ps fs vs):=fun e=>hno (Jd9 _ _ e);have hcv:Ai (Bg f)=1:=(by unfold Bg;rw[Br];rfl);have hvv:Da (Bg f)=true:=(by unfold Bg;rw[Fv];simp);have hv15:(Bg f).k≠15:=(by unfold Bg;show (16:Int)≠15;decide);have KR1:=Hd (Ly (n0:=s) (to_:=f) (HT.out w6 HB6.out) (fun x hx=>Nat.lt_of_lt_of_le hx (Nat.le_trans HB1.out.size HB6.out.size)) ⟨HNQ.out.symm,hss⟩ ⟨HNF.out,hsz⟩ ⟨HFM.out,HBIG.out.1,Nat.le_trans HC.out (by decide)⟩ hcap);have HT1:Hid (Ab (Ak s (Bg f) (.mk k s2 n ps fs vs))=true/\Da (Ak s (Bg f) (.mk k s2 n ps fs vs))=true/\Ai (Ak s (Bg f) (.mk k s2 n ps fs vs))<=4096):=Hd ⟨Me (Gr HNF.out) _ HFM.out,Je3 hvv hv15 _ HFM.out HBIG.out.1,Nat.le_trans (T9 hcv _) (Nat.le_trans HC.out (by decide))⟩;have HCAP:=Hd (X0 (x:=s) (y:=f) HNQ.out.symm _ HFM.out hk1 hk2);have HBK:=Hd (Jbh (x:=s) (y:=f) HNQ.out.symm HNF.out _ HFM.out hk1 hk2);obtain⟨T1,hT1⟩:∃ T,T=Ak s (Bg f) (.mk k s2 n ps fs vs):=⟨_,rfl⟩;rw[<-hT1] at HT1 HCAP HBK KR1;have HNN:Hid ((Bo f=true/\f.size<=1000000000000000)/\Bo s=true/\s.size<=1000000000000000):=Hd ⟨⟨HNF.out,hsz⟩,HNQ.out.symm,hss⟩;clear hfs hno hcap hsz hss hk1 hk2 hcv hvv hv15 hT1;obtain⟨x0,x1,x2,x3,x4,x5⟩:=Fs (HX.out _ HB6.out);go_wp2_with fail;refine KR1.out.mono ?_;rintro r w7 ⟨rs,rfl,hr7,hb7⟩;have HB7:Hid (Below w1.heap.size w1 w7):=Hd (HB6.out.trans (hb7.mono HB6.out.size));obtain⟨k1,s1,n1,ps1,fs1,vs1⟩:=T1;obtain⟨A1,c1,B1,d1,C1,e1,rfl,-⟩:=hr7.inv;simp only[Ar] at hr7 ⊢;have HR7:=Hd hr7;clear hr7 hb7 KR1 x0 x1 x2 x3 x4 x5 te;go_upto_region 7 with fail
     generalize hW:w7.alloc (.cells #[.int .i64 k1,.string s1,.int .i64 n1,.slice A1 ps1.length c1,.slice B1 fs1.length d1,.slice C1 vs1.length e1] 26)=w8;have hb8:Below w7.heap.size w7 w8:=(by rw[<-hW];exact (Below.refl _ _).alloc (Nat.le_refl _) _);have hx8:w8.heap[w7.heap.size]?=some (.cells #[.int .i64 k1,.string s1,.int .i64 n1,.slice A1 ps1.length c1,.slice B1 fs1.length d1,.slice C1 vs1.length e1] 26 (0,0)):=(by rw[<-hW];exact heap_alloc_new w7 _);have HB8:Hid (Below w1.heap.size w1 w8):=Hd (HB7.out.trans (hb8.mono HB7.out.size));have KR2:=Hd (Ly (n0:=f) (to_:=s) (HR7.out.later hb8) (fun x hx=>Nat.lt_of_lt_of_le hx.2 hb8.size) HNN.out.1 HNN.out.2 HT1.out HCAP.out);rw[HBK.out] at KR2;obtain⟨x0,x1,x2,x3,x4,x5⟩:=Fs hx8;clear hW hb8 hx8;go_wp2_with fail;refine KR2.out.mono ?_;rintro r w9 ⟨rs,rfl,hr9,hb9⟩;have HB9:Hid (Below w1.heap.size w1 w9):=Hd (HB8.out.trans (hb9.mono HB8.out.size));obtain⟨A2,c2,B2,d2,C2,e2,rfl,-⟩:=hr9.inv;simp only[Ar] at hr9 ⊢;have HR9:=Hd hr9;clear hr9 hb9 KR2 x0 x1 x2 x3 x4 x5;go_upto_region 8 with fail
     generalize hW:w9.alloc (.cells #[.int .i64 k,.string s2,.int .i64 n,.slice A2 ps.length c2,.slice B2 fs.length d2,.slice C2 vs.length e2] 26)=wa;have hba:Below w9.heap.size w9 wa:=(by rw[<-hW];exact (Below.refl _ _).alloc (Nat.le_refl _) _);have hxa:wa.heap[w9.heap.size]?=some (.cells #[.int .i64 k,.string s2,.int .i64 n,.slice A2 ps.length c2,.slice B2 fs.length d2,.slice C2 vs.length e2] 26 (0,0)):=(by rw[<-hW];exact heap_alloc_new w9 _);have HBa:Hid (Below w1.heap.size w1 wa):=Hd (HB9.out.trans (hba.mono HB9.out.size));have KO:=Hd (HKO.out _ _ _ wa _ _ (HR9.out.later hba) (HT.out wa HBa.out));rw[Di.2 rfl] at KO;obtain⟨x0,x1,x2,x3,x4,x5⟩:=Fs hxa;obtain⟨z0,z1,z2,z3,z4,z5⟩:=Fs (HX.out wa HBa.out);clear hW hba hxa;go_wp2_with fail;refine KO.out.mono ?_;rintro r wb ⟨rfl,hbb⟩;have HBb:Hid (Below w1.heap.size w1 wb):=Hd (HBa.out.trans (hbb.below.mono HBa.out.size));clear hbb;go_wp2_with fail;go_ret
     exact⟨rfl,HB1.out.trans (HBb.out.mono HB1.out.size)⟩
end Go.Proofs.YtlpfpehegddcfaaGreatDoor
