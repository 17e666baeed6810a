import Derived.Test.YtlpfpehegddcfaaGreatDoorMx12
import Derived.Lib.SlicesCompact
namespace Go.Proofs.YtlpfpehegddcfaaGreatDoor
set_option maxRecDepth 100000
set_option maxHeartbeats 64000000
open Go.RowKit
theorem J8 {K:Nat->Prop}{w:World}{fs:Bx}{A:Option Addr}{c:Nat}{fv:Ty->Bool}(hF:Dt K w fs A c) (hf:∀f∈fs,F5 f.2.2 (fv f.2.2)) :
  Calls Tryz.prog 136 #[.slice A fs.length c] w fun e w'=>e=.returned (.bool (Co (Bq fs fv)))/\Below w.heap.size w w':=by
 have HF:=Hd hF;have HI:=Hd hf;have hlf:=hF.shortF;clear hF hf;go_enter Tryz.func136,Tryz.ntmps136;go_wp2_with fail
 go_loopw [7] (fun v wr=>∃i:Nat,i<=fs.length/\v=.int .i64 (i:Int)/\(∀j,j<i->R7 (Bq fs fv) j=true)/\Below w.heap.size w wr) (fun v _=>fs.length - (intOf v).toNat)
 case atStart=>exact⟨0,by omega,rfl,fun j hj=>absurd hj (by omega),Below.refl _ _⟩
 case round=>
  obtain⟨i,kH,rfl,kI,hL⟩:=hrel;have hX:=Hd kI;have hD:=Hd hL;clear kI;by_cases hQ:i<fs.length
  ·have t1:decide ((i:Int)<(fs.length:Int))=true:=by simp;omega
   have hW:wrap64 ((i:Int)+1)=((i+1:Nat):Int):=Ba (by omega);have HM:=Hd (Bg hQ);have hV:Z9 (i+1<=fs.length):=Hd hQ;obtain⟨b,o,hA,_,hZ⟩:=HF.o.at (by omega);subst hA;obtain⟨kA,kB,kJ,kE⟩:=hZ i hQ;have hM:R7 (Bq fs fv) i=false->Co (Bq fs fv)=false:=fun h=>F9 (by rw[En];exact hQ) h;have kF:=HI.o _ (List.getElem_mem hQ);have KF:=Hd fun wx (hx:Below w.heap.size w wx)=>kF K wx b (o+i*8+2) (kE.later hx);have hH:(i=0/\R7 (Bq fs fv) i=(B6 fs[i].1 && decide (0<=fs[i].2.1) && decide (fs[i].2.1<=3) && fv fs[i].2.2))\/(∃j pn,i=j+1/\w.cell? ⟨b,o+j*8,none⟩=some (.string pn)/\R7 (Bq fs fv) i=(B6 fs[i].1 && decide (0<=fs[i].2.1) && decide (fs[i].2.1<=3) && fv fs[i].2.2 && Go.Op.bytesLess pn.toList fs[i].1.toList)):=by
    match i,hQ with
    | 0,h=>exact .inl ⟨rfl,Mz h⟩
    | j+1,h=>exact .inr ⟨j,_,rfl,(hZ j (by omega)).1,My h⟩
   generalize kL:fs[i].1=nm at kA kJ hH;generalize kK:fs[i].2.1=fl at kB hH;generalize kM:fv fs[i].2.2=r at KF hH;have hE:(B6 nm && decide (0<=fl) && decide (fl<=3))=false->R7 (Bq fs fv) i=false:=fun h=>by
    rcases hH with ⟨_,e⟩|⟨_,_,_,_,e⟩ <;> rw[e,h] <;> rfl
   have hT:=Aa (w:=w) (w':=wr) hL kA;have hU:=Aa (w:=w) (w':=wr) hL kB;have KN:=Hd fun wx=>Fb nm wx kJ;have hI:Z9 (∀wx,Below wr.heap.size wr wx->wx.cell? ⟨b,o+i*8,none⟩=some (.string nm)/\wx.cell? ⟨b,o+i*8+1,none⟩=some (.int .i64 fl)):=Hd fun wx hx=>⟨Aa hx hT,Aa hx hU⟩;clear hZ kA kB kL kK kM kF kE hT hU kH
   cases hq:B6 nm with
   | false=>
    have hJ:Z9 (Co (Bq fs fv)=false):=Hd (hM (hE (by rw[hq];rfl)));rw[hq]at KN;clear hM hE hH hq hL KF;go_wp2_with fail;refine wp_region_held_drew (S:=(fun w'=>w'.cell? ⟨b,o+i*8,none⟩=some (.string nm)/\w'.cell? ⟨b,o+i*8+1,none⟩=some (.int .i64 fl))) (by kernel_rfl) (hI.o _ (Below.refl _ _).drew) (fun hB=>?_);refine Ab.s [0,1,2,3] ?_
    iterate 4 (refine Ab.k (so rfl) hB ?_;try simp only[Act.put,Bd,Be,Bf])
    refine Ab.d ?_;refine wpAnyH_ready (rs:=[4]) (by kernel_rfl) (by simp) ?_;refine AllReadyH.cons (sd (some 17) rfl) (fun K hK=>?_) AllReadyH.nil;go_simp;refine (KN.o _).mono ?_;rintro e w2 ⟨rfl,hG⟩;have hC:=Hd ((Below.refl wr.heap.size wr).drew.trans hG);clear hG;go_wp2_with fail;refine hK.out _ _ (hI.o _ hC.o) (fun hB=>?_);clear hK K;try simp only[Act.put,Bd,Be,Bf]
    refine Ab.s [5,6] ?_
    iterate 2 (refine Ab.k (so rfl) hB ?_;try simp only[Act.put,Bd,Be,Bf])
    refine Ab.d ?_;refine Ab.s [7,8,9,10,11] ?_
    iterate 5 (refine Ab.t (v:=undef) (so rfl) (by kernel_rfl) (by kernel_rfl) (by kernel_rfl) (fun _ _ _ h=>h) (Or.inr ⟨by rfl,rfl⟩) hB ?_;try simp only[Act.put,Bd,Be,Bf])
    refine Ab.d ?_;refine Ab.s [12,13] ?_
    iterate 2 (refine Ab.k (so rfl) hB ?_;try simp only[Act.put,Bd,Be,Bf])
    refine Ab.d ?_;refine Ab.s [14,15,16,17,18] ?_
    iterate 5 (refine Ab.t (v:=undef) (so rfl) (by kernel_rfl) (by kernel_rfl) (by kernel_rfl) (fun _ _ _ h=>h) (Or.inr ⟨by rfl,rfl⟩) hB ?_;try simp only[Act.put,Bd,Be,Bf])
    refine Ab.d ?_;refine Ab.s [19,20] ?_
    iterate 2 (refine Ab.k (so rfl) hB ?_;try simp only[Act.put,Bd,Be,Bf])
    refine Ab.d ?_;refine Ab.s [21,22,23,24,25,26,27,28,29,30,31,32,33,34,35] ?_
    iterate 15 (refine Ab.t (v:=undef) (so rfl) (by kernel_rfl) (by kernel_rfl) (by kernel_rfl) (fun _ _ _ h=>h) (Or.inr ⟨by rfl,rfl⟩) hB ?_;try simp only[Act.put,Bd,Be,Bf])
    refine Ab.d ?_;refine Ab.s [36,37] ?_
    iterate 2 (refine Ab.k (so rfl) hB ?_;try simp only[Act.put,Bd,Be,Bf])
    refine Ab.d ?_;refine Ab.s [38,39,40,41,42] ?_
    iterate 5 (refine Ab.t (v:=undef) (so rfl) (by kernel_rfl) (by kernel_rfl) (by kernel_rfl) (fun _ _ _ h=>h) (Or.inr ⟨by rfl,rfl⟩) hB ?_;try simp only[Act.put,Bd,Be,Bf])
    refine Ab.d ?_;refine Ab.s [43] ?_;refine Ab.k (so rfl) hB ?_;try simp only[Act.put,Bd,Be,Bf]
    refine Ab.d ?_;refine wpAnyH_done (by kernel_rfl) ?_ _;clear hB;go_wp2_with fail;go_ret
    exact⟨by rw[hJ.o];rfl,hD.o.trans (hC.o.mono hD.o.size)⟩
   | true=>
    rw[hq]at KN;by_cases hO:0<=fl
    ·by_cases hP:fl<=3
     ·have f0:decide (fl<0)=false:=(by simp;omega);have f3:decide ((3:Int)<fl)=false:=(by simp;omega);rcases hH with ⟨rfl,he⟩|⟨i,pn,rfl,kC,he⟩
      ·have HE:Z9 (R7 (Bq fs fv) 0=r):=Hd (by rw[he,hq];simp[hO,hP]);simp only[Nat.zero_mul,Nat.add_zero]at hI KF;clear hM hE he hq hL;go_wp2_with fail;refine wp_region_held_drew (S:=(fun w'=>w'.cell? ⟨b,o,none⟩=some (.string nm)/\w'.cell? ⟨b,o+1,none⟩=some (.int .i64 fl))) (by kernel_rfl) (hI.o _ (Below.refl _ _).drew) (fun hB=>?_);refine Ab.s [0,1,2,3] ?_
       iterate 4 (refine Ab.k (so rfl) hB ?_;try simp only[Act.put,Bd,Be,Bf])
       refine Ab.d ?_;refine wpAnyH_ready (rs:=[4]) (by kernel_rfl) (by simp) ?_;refine AllReadyH.cons (sd (some 17) rfl) (fun K hK=>?_) AllReadyH.nil;go_simp;refine (KN.o _).mono ?_;rintro e w2 ⟨rfl,hG⟩;have hC:=Hd ((Below.refl wr.heap.size wr).drew.trans hG);clear hG;go_wp2_with fail;refine hK.out _ _ (hI.o _ hC.o) (fun hB=>?_);clear hK K;try simp only[Act.put,Bd,Be,Bf]
       refine Ab.s [5,6,7,8,9,10,11,12,13,14,15,16,17,18,19,20,21,22,23] ?_
       iterate 19 (refine Ab.k (so rfl) hB ?_;try simp only[Act.put,Bd,Be,Bf])
       refine Ab.d ?_;refine Ab.s [24,25,26,27,28,29,30,31,32,33,34] ?_
       iterate 11 (refine Ab.t (v:=undef) (so rfl) (by kernel_rfl) (by kernel_rfl) (by kernel_rfl) (fun _ _ _ h=>h) (Or.inr ⟨by rfl,rfl⟩) hB ?_;try simp only[Act.put,Bd,Be,Bf])
       refine Ab.d ?_;refine Ab.s [35,36,37,38,39,40] ?_
       iterate 6 (refine Ab.k (so rfl) hB ?_;try simp only[Act.put,Bd,Be,Bf])
       refine Ab.d ?_;refine wpAnyH_ready (rs:=[41]) (by kernel_rfl) (by simp) ?_;refine AllReadyH.cons (sd (some 54) rfl) (fun K hK=>?_) AllReadyH.nil;go_simp;refine (KF.o _ (hD.o.trans (hC.o.mono hD.o.size))).mono ?_;rintro e w3 ⟨rfl,hS⟩;have hN:=Hd (hC.o.trans (hS.mono hC.o.size));clear hS;go_wp2_with fail;refine hK.out _ _ (hI.o _ hN.o) (fun hB=>?_);clear hK K;try simp only[Act.put,Bd,Be,Bf]
       refine Ab.s [42,43] ?_
       iterate 2 (refine Ab.k (so rfl) hB ?_;try simp only[Act.put,Bd,Be,Bf])
       refine Ab.d ?_;refine wpAnyH_done (by kernel_rfl) ?_ _;clear hB
       cases r with
       | false=>
        have hJ:Z9 (Co (Bq fs fv)=false):=Hd (F9 (by rw[En];exact hV.o) HE.o);go_wp2_with fail;go_ret
        exact⟨by rw[hJ.o];rfl,hD.o.trans (hN.o.mono hD.o.size)⟩
       | true=>
        go_wp2_with fail;refine⟨⟨0+1,hV.o,by first|rfl|rw[hW],Jv hX.o HE.o,hD.o.trans (hN.o.mono hD.o.size)⟩,?_⟩;first|exact HM.o|(rw[hW];exact HM.o)
      ·have kD:=Aa (w:=w) (w':=wr) hL kC;have hR:Z9 (∀wx,Below wr.heap.size wr wx->wx.cell? ⟨b,o+i*8,none⟩=some (.string pn)):=Hd fun wx hx=>Aa hx kD;have kN:wrap64 (((i+1:Nat):Int) - 1)=((i:Nat):Int):=(by rw[Cm (by omega) (by omega)];omega);have wr1':IntKind.i64.wrap (((i+1:Nat):Int) - 1)=((i:Nat):Int):=by
        have e:IntKind.i64.wrap (((i+1:Nat):Int) - 1)=wrap64 (((i+1:Nat):Int) - 1):=(by unfold wrap64;exact IntKind.wrap_i64 _);rw[e,kN]
       have kO:wrap64 (i:Int)=(i:Int):=Cm (by omega) (by omega);have wr3':IntKind.i64.wrap (i:Int)=(i:Int):=by
        have e:IntKind.i64.wrap (i:Int)=wrap64 (i:Int):=(by unfold wrap64;exact IntKind.wrap_i64 _);rw[e,kO]
       have i2:(0:Int)<=(i:Int):=(by omega);have i3:(i:Int)<(fs.length:Int):=(by omega);have i4:(0:Int)<(i:Int)+1:=by omega
       cases kG:Go.Op.bytesLess pn.toList nm.toList with
       | true=>
        have HE:Z9 (R7 (Bq fs fv) (i+1)=r):=Hd (by rw[he,hq,kG];simp[hO,hP]);clear hM hE he hq hL kC kD;go_wp2_with fail;refine wp_region_held_drew (S:=(fun w'=>(w'.cell? ⟨b,o+(i+1)*8,none⟩=some (.string nm)/\w'.cell? ⟨b,o+(i+1)*8+1,none⟩=some (.int .i64 fl))/\w'.cell? ⟨b,o+i*8,none⟩=some (.string pn))) (by kernel_rfl) (⟨hI.o _ (Below.refl _ _).drew,hR.o _ (Below.refl _ _).drew⟩) (fun hB=>?_);refine Ab.s [0,1,2,3] ?_
        iterate 4 (refine Ab.k (so rfl) hB ?_;try simp only[Act.put,Bd,Be,Bf])
        refine Ab.d ?_;refine wpAnyH_ready (rs:=[4]) (by kernel_rfl) (by simp) ?_;refine AllReadyH.cons (sd (some 17) rfl) (fun K hK=>?_) AllReadyH.nil;go_simp;refine (KN.o _).mono ?_;rintro e w2 ⟨rfl,hG⟩;have hC:=Hd ((Below.refl wr.heap.size wr).drew.trans hG);clear hG;go_wp2_with fail;refine hK.out _ _ (⟨hI.o _ hC.o,hR.o _ hC.o⟩) (fun hB=>?_);clear hK K;try simp only[Act.put,Bd,Be,Bf]
        refine Ab.s [5,6,7,8,9,10,11,12,13,14,15,16,17,18,19,20,21,22,23,24,25,26,27,28,29,30,31,32,33,34,35,36,37,38,39,40] ?_
        iterate 36 (refine Ab.k (so rfl) hB ?_;try simp only[Act.put,Bd,Be,Bf])
        refine Ab.d ?_;refine wpAnyH_ready (rs:=[41]) (by kernel_rfl) (by simp) ?_;refine AllReadyH.cons (sd (some 54) rfl) (fun K hK=>?_) AllReadyH.nil;go_simp;refine (KF.o _ (hD.o.trans (hC.o.mono hD.o.size))).mono ?_;rintro e w3 ⟨rfl,hS⟩;have hN:=Hd (hC.o.trans (hS.mono hC.o.size));clear hS;go_wp2_with fail;refine hK.out _ _ (⟨hI.o _ hN.o,hR.o _ hN.o⟩) (fun hB=>?_);clear hK K;try simp only[Act.put,Bd,Be,Bf]
        refine Ab.s [42,43] ?_
        iterate 2 (refine Ab.k (so rfl) hB ?_;try simp only[Act.put,Bd,Be,Bf])
        refine Ab.d ?_;refine wpAnyH_done (by kernel_rfl) ?_ _;clear hB
        cases r with
        | false=>
         have hJ:Z9 (Co (Bq fs fv)=false):=Hd (F9 (by rw[En];exact hV.o) HE.o);go_wp2_with fail;go_ret
         exact⟨by rw[hJ.o];rfl,hD.o.trans (hN.o.mono hD.o.size)⟩
        | true=>
         go_wp2_with fail;refine⟨⟨(i+1)+1,hV.o,by first|rfl|rw[hW],Jv hX.o HE.o,hD.o.trans (hN.o.mono hD.o.size)⟩,?_⟩;first|exact HM.o|(rw[hW];exact HM.o)
       | false=>
        have hJ:Z9 (Co (Bq fs fv)=false):=Hd (hM (by rw[he,kG];simp));clear hM hE he hq hL kC kD KF;go_wp2_with fail;refine wp_region_held_drew (S:=(fun w'=>(w'.cell? ⟨b,o+(i+1)*8,none⟩=some (.string nm)/\w'.cell? ⟨b,o+(i+1)*8+1,none⟩=some (.int .i64 fl))/\w'.cell? ⟨b,o+i*8,none⟩=some (.string pn))) (by kernel_rfl) (⟨hI.o _ (Below.refl _ _).drew,hR.o _ (Below.refl _ _).drew⟩) (fun hB=>?_);refine Ab.s [0,1,2,3] ?_
        iterate 4 (refine Ab.k (so rfl) hB ?_;try simp only[Act.put,Bd,Be,Bf])
        refine Ab.d ?_;refine wpAnyH_ready (rs:=[4]) (by kernel_rfl) (by simp) ?_;refine AllReadyH.cons (sd (some 17) rfl) (fun K hK=>?_) AllReadyH.nil;go_simp;refine (KN.o _).mono ?_;rintro e w2 ⟨rfl,hG⟩;have hC:=Hd ((Below.refl wr.heap.size wr).drew.trans hG);clear hG;go_wp2_with fail;refine hK.out _ _ (⟨hI.o _ hC.o,hR.o _ hC.o⟩) (fun hB=>?_);clear hK K;try simp only[Act.put,Bd,Be,Bf]
        refine Ab.s [5,6,7,8,9,10,11,12,13,14,15,16,17,18,19,20,21,22,23,24,25,26,27,28,29,30,31,32,33,34,35,36,37] ?_
        iterate 33 (refine Ab.k (so rfl) hB ?_;try simp only[Act.put,Bd,Be,Bf])
        refine Ab.d ?_;refine Ab.s [38,39,40,41,42] ?_
        iterate 5 (refine Ab.t (v:=undef) (so rfl) (by kernel_rfl) (by kernel_rfl) (by kernel_rfl) (fun _ _ _ h=>h) (Or.inr ⟨by rfl,rfl⟩) hB ?_;try simp only[Act.put,Bd,Be,Bf])
        refine Ab.d ?_;refine Ab.s [43] ?_;refine Ab.k (so rfl) hB ?_;try simp only[Act.put,Bd,Be,Bf]
        refine Ab.d ?_;refine wpAnyH_done (by kernel_rfl) ?_ _;clear hB;go_wp2_with fail;go_ret
        exact⟨by rw[hJ.o];rfl,hD.o.trans (hC.o.mono hD.o.size)⟩
     ·have hJ:Z9 (Co (Bq fs fv)=false):=Hd (hM (hE (by simp[hP])));have f0:decide (fl<0)=false:=(by simp;omega);have f3:decide ((3:Int)<fl)=true:=(by simp;omega);clear hM hE hH hq hL KF;go_wp2_with fail;refine wp_region_held_drew (S:=(fun w'=>w'.cell? ⟨b,o+i*8,none⟩=some (.string nm)/\w'.cell? ⟨b,o+i*8+1,none⟩=some (.int .i64 fl))) (by kernel_rfl) (hI.o _ (Below.refl _ _).drew) (fun hB=>?_);refine Ab.s [0,1,2,3] ?_
      iterate 4 (refine Ab.k (so rfl) hB ?_;try simp only[Act.put,Bd,Be,Bf])
      refine Ab.d ?_;refine wpAnyH_ready (rs:=[4]) (by kernel_rfl) (by simp) ?_;refine AllReadyH.cons (sd (some 17) rfl) (fun K hK=>?_) AllReadyH.nil;go_simp;refine (KN.o _).mono ?_;rintro e w2 ⟨rfl,hG⟩;have hC:=Hd ((Below.refl wr.heap.size wr).drew.trans hG);clear hG;go_wp2_with fail;refine hK.out _ _ (hI.o _ hC.o) (fun hB=>?_);clear hK K;try simp only[Act.put,Bd,Be,Bf]
      refine Ab.s [5,6,7,8,9,10,11,12,13,14,15,16,17,18,19,20] ?_
      iterate 16 (refine Ab.k (so rfl) hB ?_;try simp only[Act.put,Bd,Be,Bf])
      refine Ab.d ?_;refine Ab.s [21,22,23,24,25,26,27,28,29,30,31,32,33,34,35] ?_
      iterate 15 (refine Ab.t (v:=undef) (so rfl) (by kernel_rfl) (by kernel_rfl) (by kernel_rfl) (fun _ _ _ h=>h) (Or.inr ⟨by rfl,rfl⟩) hB ?_;try simp only[Act.put,Bd,Be,Bf])
      refine Ab.d ?_;refine Ab.s [36,37] ?_
      iterate 2 (refine Ab.k (so rfl) hB ?_;try simp only[Act.put,Bd,Be,Bf])
      refine Ab.d ?_;refine Ab.s [38,39,40,41,42] ?_
      iterate 5 (refine Ab.t (v:=undef) (so rfl) (by kernel_rfl) (by kernel_rfl) (by kernel_rfl) (fun _ _ _ h=>h) (Or.inr ⟨by rfl,rfl⟩) hB ?_;try simp only[Act.put,Bd,Be,Bf])
      refine Ab.d ?_;refine Ab.s [43] ?_;refine Ab.k (so rfl) hB ?_;try simp only[Act.put,Bd,Be,Bf]
      refine Ab.d ?_;refine wpAnyH_done (by kernel_rfl) ?_ _;clear hB;go_wp2_with fail;go_ret
      exact⟨by rw[hJ.o];rfl,hD.o.trans (hC.o.mono hD.o.size)⟩
    ·have hJ:Z9 (Co (Bq fs fv)=false):=Hd (hM (hE (by simp[hO])));have f0:decide (fl<0)=true:=(by simp;omega);clear hM hE hH hq hL KF;go_wp2_with fail;refine wp_region_held_drew (S:=(fun w'=>w'.cell? ⟨b,o+i*8,none⟩=some (.string nm)/\w'.cell? ⟨b,o+i*8+1,none⟩=some (.int .i64 fl))) (by kernel_rfl) (hI.o _ (Below.refl _ _).drew) (fun hB=>?_);refine Ab.s [0,1,2,3] ?_
     iterate 4 (refine Ab.k (so rfl) hB ?_;try simp only[Act.put,Bd,Be,Bf])
     refine Ab.d ?_;refine wpAnyH_ready (rs:=[4]) (by kernel_rfl) (by simp) ?_;refine AllReadyH.cons (sd (some 17) rfl) (fun K hK=>?_) AllReadyH.nil;go_simp;refine (KN.o _).mono ?_;rintro e w2 ⟨rfl,hG⟩;have hC:=Hd ((Below.refl wr.heap.size wr).drew.trans hG);clear hG;go_wp2_with fail;refine hK.out _ _ (hI.o _ hC.o) (fun hB=>?_);clear hK K;try simp only[Act.put,Bd,Be,Bf]
     refine Ab.s [5,6,7,8,9,10,11,12,13] ?_
     iterate 9 (refine Ab.k (so rfl) hB ?_;try simp only[Act.put,Bd,Be,Bf])
     refine Ab.d ?_;refine Ab.s [14,15,16,17,18] ?_
     iterate 5 (refine Ab.t (v:=undef) (so rfl) (by kernel_rfl) (by kernel_rfl) (by kernel_rfl) (fun _ _ _ h=>h) (Or.inr ⟨by rfl,rfl⟩) hB ?_;try simp only[Act.put,Bd,Be,Bf])
     refine Ab.d ?_;refine Ab.s [19,20] ?_
     iterate 2 (refine Ab.k (so rfl) hB ?_;try simp only[Act.put,Bd,Be,Bf])
     refine Ab.d ?_;refine Ab.s [21,22,23,24,25,26,27,28,29,30,31,32,33,34,35] ?_
     iterate 15 (refine Ab.t (v:=undef) (so rfl) (by kernel_rfl) (by kernel_rfl) (by kernel_rfl) (fun _ _ _ h=>h) (Or.inr ⟨by rfl,rfl⟩) hB ?_;try simp only[Act.put,Bd,Be,Bf])
     refine Ab.d ?_;refine Ab.s [36,37] ?_
     iterate 2 (refine Ab.k (so rfl) hB ?_;try simp only[Act.put,Bd,Be,Bf])
     refine Ab.d ?_;refine Ab.s [38,39,40,41,42] ?_
     iterate 5 (refine Ab.t (v:=undef) (so rfl) (by kernel_rfl) (by kernel_rfl) (by kernel_rfl) (fun _ _ _ h=>h) (Or.inr ⟨by rfl,rfl⟩) hB ?_;try simp only[Act.put,Bd,Be,Bf])
     refine Ab.d ?_;refine Ab.s [43] ?_;refine Ab.k (so rfl) hB ?_;try simp only[Act.put,Bd,Be,Bf]
     refine Ab.d ?_;refine wpAnyH_done (by kernel_rfl) ?_ _;clear hB;go_wp2_with fail;go_ret
     exact⟨by rw[hJ.o];rfl,hD.o.trans (hC.o.mono hD.o.size)⟩
  ·have t1:decide ((i:Int)<(fs.length:Int))=false:=by simp;omega
   have hY:Z9 (Co (Bq fs fv)=true):=Hd (Et.2 fun j hj=>hX.o j (by rw[En]at hj;omega));clear kH hL;go_wp2_with fail;go_ret
   exact⟨by rw[hY.o];rfl,hD.o⟩
theorem Fc.sixAt {K:Nat->Prop}{w0 w:World}{g c:Nat}{s:List Ty}(h:Fc K w0 w g c s) {i:Nat}{t:Ty}(hi:s[i]?=some t):∃x0 x1 x2 x3 x4 x5 x6 x7 x8 x9 xa xb,(w.cell? ⟨g,i*6,none⟩=some (.int .i64 x0)/\w.cell? ⟨g,i*6+1,none⟩=some (.string x1)/\w.cell? ⟨g,i*6+2,none⟩=some (.int .i64 x2)/\w.cell? ⟨g,i*6+3,none⟩=some (.slice x3 x4 x5)/\w.cell? ⟨g,i*6+4,none⟩=some (.slice x6 x7 x8)/\w.cell? ⟨g,i*6+5,none⟩=some (.slice x9 xa xb))/\Aw K w0 t [.int .i64 x0,.string x1,.int .i64 x2,.slice x3 x4 x5,.slice x6 x7 x8,.slice x9 xa xb]:=by
 obtain⟨cs,h1,h2⟩:=h.reps i t hi;obtain⟨k,z,n,ps,fs,vs⟩:=t;obtain⟨A,c,A',c',A'',c'',rfl,_⟩:=h1.inv;exact⟨_,_,_,_,_,_,_,_,_,_,_,_,⟨h2 0 _ rfl,h2 1 _ rfl,h2 2 _ rfl,h2 3 _ rfl,h2 4 _ rfl,h2 5 _ rfl⟩,h1⟩
theorem Fc.six {K:Nat->Prop}{w0 w:World}{g c:Nat}{s:List Ty}(h:Fc K w0 w g c s) {i:Nat}(hi:i<s.length):∃x0 x1 x2 x3 x4 x5 x6 x7 x8 x9 xa xb,(w.cell? ⟨g,i*6,none⟩=some (.int .i64 x0)/\w.cell? ⟨g,i*6+1,none⟩=some (.string x1)/\w.cell? ⟨g,i*6+2,none⟩=some (.int .i64 x2)/\w.cell? ⟨g,i*6+3,none⟩=some (.slice x3 x4 x5)/\w.cell? ⟨g,i*6+4,none⟩=some (.slice x6 x7 x8)/\w.cell? ⟨g,i*6+5,none⟩=some (.slice x9 xa xb))/\Aw K w0 s[i] [.int .i64 x0,.string x1,.int .i64 x2,.slice x3 x4 x5,.slice x6 x7 x8,.slice x9 xa xb]:=h.sixAt (List.getElem?_eq_getElem hi)
theorem Ll (w:World) (ty:TypeId) (b o n c:Nat) (hn:0<n)
  (hc:∀j,j<n*6->(w.cell? ⟨b,o+j,none⟩).isSome=true/\w.frozen? ⟨b,o+j,none⟩=false) :
  (Builtin.clear_ #[22] ty #[.slice (some ⟨b,o,none⟩) n c]).run Tryz.prog w=.ok (.tuple #[]) (w.setCells b o (Builtin.zeroCells #[.int .i64 0,.string ⟨#[]⟩,.int .i64 0,.slice none 0 0,.slice none 0 0,.slice none 0 0] n).toList):=by
 have hA:(Builtin.zeroCells #[.int .i64 0,.string ⟨#[]⟩,.int .i64 0,.slice none 0 0,.slice none 0 0,.slice none 0 0] n).toList.length=n*6:=by simp[Builtin.zeroCells]
 have hB:=run_storeCells_cells (P:=Tryz.prog) b o (Builtin.zeroCells #[.int .i64 0,.string ⟨#[]⟩,.int .i64 0,.slice none 0 0,.slice none 0 0,.slice none 0 0] n).toList 0 w (by rw[hA];simpa using fun j hj=>(hc j hj).1) (by rw[hA];simpa using fun j hj=>(hc j hj).2) (by
  intro v hv;simp only[Builtin.zeroCells,Array.toList_map,List.mem_map]at hv;obtain⟨i,_,rfl⟩:=hv;have h6:i % 6<6:=Nat.mod_lt _ (by decide);generalize hr:i % 6=r at h6
  match r,h6 with
  | 0,_=>rfl
  | 1,_=>rfl
  | 2,_=>rfl
  | 3,_=>rfl
  | 4,_=>rfl
  | 5,_=>rfl)
 simp only[Nat.add_zero]at hB;obtain⟨m,rfl⟩:∃m,n=m+1:=⟨n - 1,by omega⟩;have hz:(Value.agg #[.int .i64 0,.string ⟨#[]⟩,.int .i64 0,.slice none 0 0,.slice none 0 0,.slice none 0 0]).cells=#[.int .i64 0,.string ⟨#[]⟩,.int .i64 0,.slice none 0 0,.slice none 0 0,.slice none 0 0]:=by rfl
 simp[Builtin.clear_,run_underlying Tryz.underlying22,Tryz.zeroValue26,hz,hB]
structure F6 (K:Nat->Prop) (w0 wr:World) (g c:Nat) (s:List Ty) (m:Nat) (D:List Ty) (i:Nat):Prop where
 le:m+2+i<=s.length
 d:D=Cf (s.take (m+2+i))
 dl:D.length<=m+1+i
 row:Fc K w0 wr g c (D++s.drop D.length)
 below:Below w0.heap.size w0 wr
theorem F6.at {K:Nat->Prop}{w0 wr:World}{g c:Nat}{s:List Ty}{m:Nat}{D:List Ty}{i:Nat}(h:F6 K w0 wr g c s m D i) {j:Nat}(h1:m+1+i<=j) (h2:j<s.length):(D++s.drop D.length)[j]?=some s[j]:=by
 have:=h.dl;rw[List.getElem?_append_right (by omega),List.getElem?_drop,show D.length+(j - D.length)=j from by omega];exact List.getElem?_eq_getElem h2
theorem F6.start {K:Nat->Prop}{w0 wr:World}{g c:Nat}{s:List Ty}{m:Nat}(hm:m+1<s.length) (hd:Cf (s.take (m+1))=s.take (m+1)) (he:B5 s[m] s[m+1]=0) (hr:Fc K w0 wr g c s) (hb:Below w0.heap.size w0 wr):F6 K w0 wr g c s m (s.take (m+1)) 0:=by
 have hl:(s.take (m+1)).length=m+1:=by simp;omega
 refine⟨by omega,?_,by omega,by rw[hl,List.take_append_drop];exact hr,hb⟩;have:=Hp (s:=s) (n:=m+1) (by omega) hm;have he':B5 s[m+1 - 1] s[m+1]=0:=he;rw[if_pos he',hd]at this;exact this.symm
theorem F6.same {K:Nat->Prop}{w0 wr w':World}{g c:Nat}{s:List Ty}{m:Nat}{D:List Ty}{i:Nat}(h:F6 K w0 wr g c s m D i) (hi:m+2+i<s.length) (he:B5 s[m+1+i] s[m+2+i]=0) (hb:Below wr.heap.size wr w'):F6 K w0 w' g c s m D (i+1):=by
 refine⟨by omega,?_,by have:=h.dl;omega,h.row.later hb,h.below.trans (hb.mono h.below.size)⟩;have:=Hp (s:=s) (n:=m+2+i) (by omega) hi;rw[if_pos (by simpa only[show m+2+i - 1=m+1+i from by omega] using he),<-h.d]at this;exact this.symm
theorem F6.put {K:Nat->Prop}{w0 wr wy:World}{g c:Nat}{s:List Ty}{m:Nat}{D:List Ty}{i:Nat}{cs:List Value}(h:F6 K w0 wr g c s m D i) (hi:m+2+i<s.length) (hn:B5 s[m+1+i] s[m+2+i]≠0) (hg:w0.heap.size<=g) (hb:Below wr.heap.size wr wy) (ht:Aw K w0 s[m+2+i] cs):F6 K w0 (wy.setCells g (D.length*6) cs) g c s m (D++[s[m+2+i]]) (i+1):=by
 have hA:=h.dl;refine⟨by omega,?_,by simp;omega,(h.row.later hb).put (by omega) ht,Eb hg cs _ _ (h.below.trans (hb.mono h.below.size))⟩;have:=Hp (s:=s) (n:=m+2+i) (by omega) hi;rw[if_neg (by simpa only[show m+2+i - 1=m+1+i from by omega] using hn),<-h.d]at this;exact this.symm
theorem F6.fin {K:Nat->Prop}{w0 wr:World}{g c:Nat}{s:List Ty}{m:Nat}{D:List Ty}{i:Nat}(h:F6 K w0 wr g c s m D i) (hi:¬ m+2+i<s.length) (hg:w0.heap.size<=g) (L:List Value):D=Cf s/\Fc K w0 (wr.setCells g (D.length*6) L) g c D/\Below w0.heap.size w0 (wr.setCells g (D.length*6) L):=by
 have hE:=h.le;refine⟨by rw[h.d,List.take_of_length_le (by omega)],?_,Eb hg L _ _ h.below⟩;have hp:=h.row.pre;obtain⟨cur,hA,hB⟩:=hp.blk;refine⟨hp.le,hp.mx,Pz g L _ wr ⟨_,_,hA,rfl⟩ _ ⟨_,hA,hB⟩,fun a t ha=>?_⟩;obtain⟨cs,h1,h2⟩:=hp.reps a t ha;have hD:=(List.getElem?_eq_some_iff.1 ha).1;refine⟨cs,h1,fun j u hj=>?_⟩;have hC:=(List.getElem?_eq_some_iff.1 hj).1;rw[h1.six]at hC;rw[World.cell?_setCells_out g L _ wr ⟨g,a*6+j,none⟩ (fun _ _=>by show a*6+j<_\/_<=a*6+j;omega)];exact h2 j u hj
theorem Jec (x y:Int):M7 (decide (x<y)) (decide (y<x))=Dp x y:=by
 rcases Gj x y with ⟨a,b,e⟩|⟨a,b,e⟩|⟨a,b,e⟩ <;> rw[e,M7] <;> simp[a,b]
theorem Jet (x y:Z8):M7 (Op.bytesLess x.toList y.toList) (!Op.bytesLess x.toList y.toList && !(x.toList == y.toList))=Dv x y:=by
 rcases Hm x y with ⟨a,b,e⟩|⟨a,b,e⟩|⟨a,b,e⟩ <;> rw[e,M7,a,b] <;> rfl
theorem W7 (k:Int) (t:Z8) (n:Int) (ps:List Ty) (fs:Bx) (vs:Bt) (hp:∀p∈ps,O9 p) (hf:∀f∈fs,O9 f.2.2) (hv:∀v∈vs,∀b∈v.2,O9 b):O9 (.mk k t n ps fs vs):=by
 intro K K' t' w cs cs' h h';obtain⟨k',s',n',ps',fs',vs'⟩:=t';have hD:Gw w ((w.alloc (.cells cs.toArray 26)).alloc (.cells cs'.toArray 26)):=((Gw.refl w).alloc _).alloc _;have a1:=(De.box 26 h).later ((Below.refl _ _).alloc (Nat.le_refl _) (.cells cs'.toArray 26));have a2:De K' ((w.alloc (.cells cs.toArray 26)).alloc (.cells cs'.toArray 26)) (.mk k' s' n' ps' fs' vs') (w.heap.size+1) 0:=by
  have:=De.box (w:=w.alloc (.cells cs.toArray 26)) 26 (h'.later ((Below.refl _ _).alloc (Nat.le_refl _) _));rw[World.size_alloc]at this;exact this
 have hA:=Hd hD;obtain⟨A,c,A2,c2,A3,c3,rfl,-⟩:=h.inv;obtain⟨B,d,B2,d2,B3,d3,rfl,-⟩:=h'.inv;simp only[Az]at a1 a2 hA ⊢;generalize hE:(w.alloc (.cells #[.int .i64 k,.string t,.int .i64 n,.slice A ps.length c,.slice A2 fs.length c2,.slice A3 vs.length c3] 26)).alloc (.cells #[.int .i64 k',.string s',.int .i64 n',.slice B ps'.length d,.slice B2 fs'.length d2,.slice B3 vs'.length d3] 26)=w2 at a1 a2 hA;have hG:=Hd hE;obtain⟨A',c',A2',c2',A3',c3',⟨x0,x1,x2,x3,x4,x5⟩,-,hP,hF,hV⟩:=a1.six;obtain⟨B',d',B2',d2',B3',d3',⟨y0,y1,y2,y3,y4,y5⟩,-,hP',hF',hV'⟩:=a2.six;rw[Nat.zero_add]at x1 x2 x3 x4 x5 y1 y2 y3 y4 y5;have HX:Z9 (∀wx,Gw w2 wx->(wx.cell? ⟨w.heap.size,3,none⟩=some (.slice A' ps.length c')/\wx.cell? ⟨w.heap.size,4,none⟩=some (.slice A2' fs.length c2')/\wx.cell? ⟨w.heap.size,5,none⟩=some (.slice A3' vs.length c3'))/\wx.cell? ⟨w.heap.size+1,3,none⟩=some (.slice B' ps'.length d')/\wx.cell? ⟨w.heap.size+1,4,none⟩=some (.slice B2' fs'.length d2')/\wx.cell? ⟨w.heap.size+1,5,none⟩=some (.slice B3' vs'.length d3')):=Hd fun wx hx=>⟨⟨Aa hx.below x3,Aa hx.below x4,Aa hx.below x5⟩,Aa hx.below y3,Aa hx.below y4,Aa hx.below y5⟩;have K3:Z9 (∀wx,Gw w2 wx->Calls Tryz.prog 45 #[.slice A' ps.length c',.slice B' ps'.length d'] wx fun e w'=>e=.returned (.int .i64 (Ca (Bw ps) (Bw ps')))/\Gw wx w'):=Hd fun wx hx=>Ry ps ps' hp (hP.later hx.below) (hP'.later hx.below);have K4:Z9 (∀wx,Gw w2 wx->Calls Tryz.prog 46 #[.slice A2' fs.length c2',.slice B2' fs'.length d2'] wx fun e w'=>e=.returned (.int .i64 (Ca (Ee fs) (Ee fs')))/\Gw wx w'):=Hd fun wx hx=>Sz fs fs' hf (hF.later hx.below) (hF'.later hx.below);have K5:Z9 (∀wx,Gw w2 wx->Calls Tryz.prog 47 #[.slice A3' vs.length c3',.slice B3' vs'.length d3'] wx fun e w'=>e=.returned (.int .i64 (Ca (Ef vs) (Ef vs')))/\Gw wx w'):=Hd fun wx hx=>Jat vs vs' hv (hV.later hx.below) (hV'.later hx.below);have HO:=Hd (O0 k t n ps fs vs k' s' n' ps' fs' vs');have Z0:=Hd (Jec k k');have Z1:=Hd (Jet t s');have Z2:=Hd (Jec n n');generalize B5 (.mk k t n ps fs vs) (.mk k' s' n' ps' fs' vs')=oo at HO ⊢;generalize Dp k k'=q0 at HO Z0;generalize Dv t s'=q1 at HO Z1;generalize Dp n n'=q2 at HO Z2;generalize Ca (Bw ps) (Bw ps')=q3 at HO K3;generalize Ca (Ee fs) (Ee fs')=q4 at HO K4;generalize Ca (Ef vs) (Ef vs')=q5 at HO K5;clear h h' hD a1 a2 hP hF hV hP' hF' hV' hp hf hv hE x3 x4 x5 y3 y4 y5;go_enter Tryz.func20,Tryz.ntmps20;go_wp2_with fail;rw[hG.o];refine (Cv _ _ _).mono ?_;rintro e w3 ⟨rfl,rfl⟩;rw[Z0.o];by_cases z0:q0=0
 ·have e0:(q0 == 0)=true:=by simpa using z0
  have Q0:=Hd z0;clear z0;go_wp2_with fail;refine (Cv _ _ _).mono ?_;rintro e w3 ⟨rfl,rfl⟩;rw[Z1.o];by_cases z1:q1=0
  ·have e1:(q1 == 0)=true:=by simpa using z1
   have Q1:=Hd z1;clear z1;go_wp2_with fail;refine (Cv _ _ _).mono ?_;rintro e w3 ⟨rfl,rfl⟩;rw[Z2.o];by_cases z2:q2=0
   ·have e2:(q2 == 0)=true:=(by simpa using z2);have Q2:=Hd z2;clear z2;obtain⟨⟨x3,x4,x5⟩,y3,y4,y5⟩:=HX.o _ (Gw.refl _);go_wp2_with fail;clear x3 x4 x5 y3 y4 y5;refine (K3.o _ (Gw.refl _)).mono ?_;rintro e w3 ⟨rfl,hg⟩;have hB:=Hd (hg);clear hg;by_cases z3:q3=0
    ·have e3:(q3 == 0)=true:=(by simpa using z3);have Q3:=Hd z3;clear z3;obtain⟨⟨x3,x4,x5⟩,y3,y4,y5⟩:=HX.o _ hB.o;go_wp2_with fail;clear x3 x4 x5 y3 y4 y5;refine (K4.o _ hB.o).mono ?_;rintro e w4 ⟨rfl,hg⟩;have hC:=Hd (hB.o.trans hg);clear hg;by_cases z4:q4=0
     ·have e4:(q4 == 0)=true:=(by simpa using z4);have Q4:=Hd z4;clear z4;obtain⟨⟨x3,x4,x5⟩,y3,y4,y5⟩:=HX.o _ hC.o;go_wp2_with fail;clear x3 x4 x5 y3 y4 y5;refine (K5.o _ hC.o).mono ?_;rintro e w5 ⟨rfl,hg⟩;have hH:=Hd (hC.o.trans hg);clear hg;go_wp2_with fail;go_ret
      exact⟨by rw[HO.o,Q0.o,Bn,Q1.o,Bn,Q2.o,Bn,Q3.o,Bn,Q4.o,Bn];rfl,hA.o.trans hH.o⟩
     ·have e4:(q4 == 0)=false:=(by simpa using z4);have Q4:=Hd z4;clear z4;go_wp2_with fail;go_ret
      exact⟨by rw[HO.o,Q0.o,Bn,Q1.o,Bn,Q2.o,Bn,Q3.o,Bn,Dr Q4.o];rfl,hA.o.trans hC.o⟩
    ·have e3:(q3 == 0)=false:=(by simpa using z3);have Q3:=Hd z3;clear z3;go_wp2_with fail;go_ret
     exact⟨by rw[HO.o,Q0.o,Bn,Q1.o,Bn,Q2.o,Bn,Dr Q3.o];rfl,hA.o.trans hB.o⟩
   ·have e2:(q2 == 0)=false:=(by simpa using z2);have Q2:=Hd z2;clear z2;go_wp2_with fail;go_ret
    exact⟨by rw[HO.o,Q0.o,Bn,Q1.o,Bn,Dr Q2.o];rfl,hA.o⟩
  ·have e1:(q1 == 0)=false:=by simpa using z1
   have Q1:=Hd z1;clear z1;go_wp2_with fail;go_ret
   exact⟨by rw[HO.o,Q0.o,Bn,Dr Q1.o];rfl,hA.o⟩
 ·have e0:(q0 == 0)=false:=by simpa using z0
  have Q0:=Hd z0;clear z0;go_wp2_with fail;go_ret
  exact⟨by rw[HO.o,Dr Q0.o];rfl,hA.o⟩
theorem Ke (t:Ty):O9 t:=Ty.ind (C:=O9) (fun k t n ps fs vs hp hf hv=>W7 k t n ps fs vs hp hf hv) t
theorem Qs {zs:List (List UInt8)}{x:List UInt8}:x∈Lib.compact zs↔∃j,∃h:j<zs.length,(j=0\/zs[j]!≠zs[j - 1]!)/\zs[j]=x:=by
 unfold Lib.compact Lib.compactUpTo;rw[List.mem_map]
 constructor
 ·rintro⟨j,hj,e⟩;obtain⟨h1,h2⟩:=List.mem_filter.1 hj;have h3:j<zs.length:=List.mem_range.1 h1;unfold Lib.keeps at h2;have h4:=of_decide_eq_true h2;simp only[List.getElem!_toArray]at h4 e;refine⟨j,h3,h4,?_⟩;rw[<-e,getElem!_pos zs j h3]
 ·rintro⟨j,h3,h4,e⟩;refine⟨j,List.mem_filter.2 ⟨List.mem_range.2 h3,?_⟩,?_⟩
  ·unfold Lib.keeps;refine decide_eq_true ?_;simp only[List.getElem!_toArray];exact h4
  ·simp only[List.getElem!_toArray];rw[getElem!_pos zs j h3,e]
theorem Ky {zs:List (List UInt8)}{x:List UInt8}:x∈Lib.compact zs↔x∈zs:=by
 rw[Qs]
 constructor
 ·rintro⟨j,h,_,e⟩;rw[<-e];exact List.getElem_mem h
 ·intro h;obtain⟨j,hj,e⟩:=List.getElem_of_mem h
  induction j with
  | zero=>exact⟨0,hj,.inl rfl,e⟩
  | succ j ih=>
   by_cases h2:zs[j+1]=zs[j]'(by omega)
   ·exact ih (by omega) (by rw[<-h2];exact e)
   ·refine⟨j+1,hj,.inr ?_,e⟩;rw[getElem!_pos zs (j+1) hj,Nat.add_sub_cancel,getElem!_pos zs j (by omega)];exact h2
theorem Sg {ss:List (List UInt8)}{x:List UInt8}:x∈ss.mergeSort (fun x y=>decide (x<=y))↔x∈ss:=(List.mergeSort_perm _ _).mem_iff
def Ic (l:List Z8):List Z8:=(Lib.compact ((l.map (·.data.toList)).mergeSort fun x y=>decide (x<=y))).map fun x=>⟨x.toArray⟩
theorem Kk (l:List Z8):(Ic l).length<=l.length:=by
 unfold Ic Lib.compact Lib.compactUpTo;rw[List.length_map,List.length_map];refine Nat.le_trans (List.length_filter_le _ _) ?_;rw[List.length_range,List.length_mergeSort,List.length_map];exact Nat.le_refl _
theorem W0 {l:List Z8}{x:Z8}:x∈Ic l↔x∈l:=by
 unfold Ic;rw[List.mem_map]
 constructor
 ·rintro⟨y,hy,rfl⟩;rw[Ky,Sg,List.mem_map]at hy;obtain⟨z,hz,e⟩:=hy;have:(⟨y.toArray⟩:Z8)=z:=E7 (by rw[<-e]);rw[this];exact hz
 ·intro h;refine⟨x.data.toList,?_,E7 rfl⟩;rw[Ky,Sg];exact List.mem_map_of_mem h
theorem Xb {F:List Ty}{t:Ty}(hA:Lm F) {j:Nat}(hj:j<F.length) (h0:B5 F[j] t=0):Fv t F=F:=by
 have e:=C5.1 h0;refine Hk (D3 t hA) hA fun x=>?_;rw[Dw]
 constructor
 ·rintro (rfl|h)
  ·rw[<-e];exact List.getElem_mem hj
  ·exact h
 ·exact .inr
theorem Jds {F:List Ty}{t:Ty}{k:Nat}(hA:Lm F) (hB:∀j (h:j<F.length),j+1=k->B5 F[j] t = -1) {i:Nat}(hi:i<F.length) (hC:i<k) (hk:k<=F.length):B5 F[i] t = -1:=by
 rcases Nat.lt_or_ge (i+1) k with h|h
 ·have h1:=hB (k - 1) (by omega) (by omega);have h2:=List.pairwise_iff_getElem.1 hA i (k - 1) hi (by omega) (by omega);exact Fx h2 h1
 ·exact hB i hi (by omega)
theorem U8 {F:List Ty}{t:Ty}{k:Nat}(hA:Lm F) (hk:k<=F.length) (hC:∀j (h:j<F.length),k<=j->B5 F[j] t=1) (hD:∀j (h:j<F.length),j+1=k->B5 F[j] t = -1):Fv t F=F.take k++t :: F.drop k:=by
 refine Hk (D3 t hA) ?_ fun x=>?_
 ·have hB:=hA;unfold Lm at hB;rw[<-List.take_append_drop k F,List.pairwise_append]at hB;obtain⟨h1,h2,h3⟩:=hB;refine List.pairwise_append.2 ⟨h1,List.pairwise_cons.2 ⟨fun b hb=>?_,h2⟩,fun a ha b hb=>?_⟩
  ·obtain⟨j,hj,rfl⟩:=List.getElem_of_mem hb;rw[List.getElem_drop];exact U6 (hC _ (by simp at hj;omega) (by omega))
  ·rcases List.mem_cons.1 hb with rfl|hb
   ·obtain⟨j,hj,rfl⟩:=List.getElem_of_mem ha;rw[List.getElem_take];exact Jds hA hD (by simp at hj;omega) (by simp at hj;omega) hk
   ·exact h3 a ha b hb
 ·rw[Dw,List.mem_append,List.mem_cons]
  constructor
  ·rintro (h|h)
   ·exact .inr (.inl h)
   ·rw[<-List.take_append_drop k F]at h;rcases List.mem_append.1 h with h|h
    ·exact .inl h
    ·exact .inr (.inr h)
  ·rintro (h|h|h)
   ·exact .inr (List.mem_of_mem_take h)
   ·exact .inl h
   ·exact .inr (List.mem_of_mem_drop h)
theorem Fc.set {K:Nat->Prop}{w0 w:World}{g c:Nat}{a b:List Ty}{x t:Ty}{cs:List Value}(h:Fc K w0 w g c (a++x :: b)) (ht:Aw K w0 t cs):Fc K w0 (w.setCells g (a.length*6) cs) g c (a++t :: b):=by
 have e:(a++x :: b).drop a.length=x :: b:=List.drop_left;have h1:Fc K w0 w g c (a++(a++x :: b).drop a.length):=by rw[e];exact h
 have h2:=h1.put (by simp) ht;have e2:(a++x :: b).drop (a++[t]).length=b:=by
  rw[List.length_append,List.length_singleton,<-List.drop_drop,e];rfl
 rw[e2,List.append_assoc]at h2;exact h2
theorem Fc.o {K:Nat->Prop}{w0 w:World}{g c:Nat}{ts:List Ty}(h:Fc K w0 w g c ts) (hg:w0.heap.size<=g):Cs K w0 w (.slice (some ⟨g,0,none⟩) ts.length c) ts:=by
 obtain⟨cur,h1,h2⟩:=h.blk;have hB:=h.le;refine⟨cur.toList.take (ts.length*6),⟨by simp;omega,.inr ⟨g,c,cur,rfl,hg,h1,hB,h.mx,h2,rfl⟩⟩,fun i hi=>?_⟩;obtain⟨cs,h3,h4⟩:=h.reps i ts[i] (List.getElem?_eq_getElem hi);refine⟨cs,h3,fun j u hj=>?_⟩;have h5:=h4 j u hj;have hA:=(List.getElem?_eq_some_iff.1 hj).1;rw[h3.six]at hA;rw[cell_of_row _ _ _ _ _ _ h1]at h5;rw[List.getElem?_take,if_pos (by omega)];simpa using h5
