import Derived.Test.YtlpfpehegddcfaaGreatDoorMx9
namespace Go.Proofs.YtlpfpehegddcfaaGreatDoor
set_option maxRecDepth 100000
set_option maxHeartbeats 64000000
open Go.RowKit
theorem Sz (l l':Bx) (h:∀f∈l,O9 f.2.2) {K K':Nat->Prop}{w:World}{A A':Option Addr}{c c':Nat}(h1:Dt K w l A c) (h2:Dt K' w l' A' c') :
  Calls Tryz.prog 46 #[.slice A l.length c,.slice A' l'.length c'] w fun e w'=>e=.returned (.int .i64 (Ca (Fj (fun f:Z8×Int×Ty=>[Dy.s f.1,.i f.2.1]++flat f.2.2) l) (Fj (fun f:Z8×Int×Ty=>[Dy.s f.1,.i f.2.1]++flat f.2.2) l')))/\Gw w w':=by
 have H1:=Hd h1;have H2:=Hd h2;have HI:=Hd h;have kD:l.length<=1000000000000000:=by obtain⟨_,_,hr,_⟩:=h1;exact hr.big
 have kA:l'.length<=1000000000000000:=by obtain⟨_,_,hr,_⟩:=h2;exact hr.big
 clear h h1 h2;by_cases hH:l.length=l'.length
 ·rw[He (fun f:Z8×Int×Ty=>[Dy.s f.1,.i f.2.1]++flat f.2.2) hH];generalize hL:C0 (fun f:Z8×Int×Ty=>[Dy.s f.1,.i f.2.1]++flat f.2.2) l l' 0=res;have hP:=Hd hL;have hO:=Hd hH;rw[<-hH];have hZ:¬ l.length<l.length:=Nat.lt_irrefl _;clear hL hH kA;go_enter Tryz.func46,Tryz.ntmps46;go_wp2_with fail;refine (Cv _ _ _).mono ?_;rintro e w1 ⟨rfl,rfl⟩;simp only[M7];go_wp2_with fail
  go_loopw [5,6] (fun vc vi wr=>∃(cc:Int) (i:Nat),i<=l.length/\vc=.int .i64 cc/\vi=.int .i64 i/\Fw cc (C0 (fun f:Z8×Int×Ty=>[Dy.s f.1,.i f.2.1]++flat f.2.2) l l' i)=res/\Gw w1 wr) (fun _ vi _=>l.length - (intOf vi).toNat)
  case atStart=>exact⟨0,0,by omega,by first|rfl|simp,rfl,by rw[Bn];exact hP.o,Gw.refl _⟩
  case round=>
   obtain⟨cc,i,hi,rfl,rfl,ho,hb⟩:=hrel;have HO:=Hd ho;have HB:=Hd hb;clear ho;by_cases hN:cc=0
   ·subst hN;by_cases hE:i<l.length
    ·have t1:decide ((i:Int)<(l.length:Int))=true:=(by simp;omega);have hF:wrap64 ((i:Int)+1)=((i+1:Nat):Int):=Ba (by omega);have HM:=Hd (Bg hE);have hD:i<l'.length:=(by rw[<-hO.o];exact hE);have hI:=Gh (fun f:Z8×Int×Ty=>[Dy.s f.1,.i f.2.1]++flat f.2.2) Pc hO.o hE hD;have hM:Fw (Ca ((fun f:Z8×Int×Ty=>[Dy.s f.1,.i f.2.1]++flat f.2.2) l[i]) ((fun f:Z8×Int×Ty=>[Dy.s f.1,.i f.2.1]++flat f.2.2) l'[i])) (C0 (fun f:Z8×Int×Ty=>[Dy.s f.1,.i f.2.1]++flat f.2.2) l l' (i+1))=res:=(by rw[<-hI,<-Bn (C0 (fun f:Z8×Int×Ty=>[Dy.s f.1,.i f.2.1]++flat f.2.2) l l' i)];exact HO.o);obtain⟨b,o,hA,_,hS⟩:=H1.o.at (by omega);obtain⟨b',o',hA',_,hat'⟩:=H2.o.at (by omega);subst hA hA';have i0:(0:Int)<=(i:Int):=(by omega);have i1:(i:Int)<(l.length:Int):=(by omega);clear hI;have hJ:Z9 (i+1<=l.length):=Hd hE;obtain⟨hn,hf,-,hT⟩:=hS i hE;obtain⟨hn',hf',-,hT'⟩:=hat' i hD;obtain⟨p0,p1,p2,p3,p4,p5,p6,p7,p8,p9,pa,pb,hp,hU⟩:=(hT.later hb.below).six2;obtain⟨q0,q1,q2,q3,q4,q5,q6,q7,q8,q9,qa,qb,hq,hV⟩:=(hT'.later hb.below).six2
     replace hn:=Aa (w:=w1) (w':=wr) hb.below hn
     replace hn':=Aa (w:=w1) (w':=wr) hb.below hn'
     replace hf:=Aa (w:=w1) (w':=wr) hb.below hf
     replace hf':=Aa (w:=w1) (w':=wr) hb.below hf'
     have KO:Z9 (∀wx,Below wr.heap.size wr wx->Calls Tryz.prog 20 #[.agg #[.int .i64 p0,.string p1,.int .i64 p2,.slice p3 p4 p5,.slice p6 p7 p8,.slice p9 pa pb],.agg #[.int .i64 q0,.string q1,.int .i64 q2,.slice q3 q4 q5,.slice q6 q7 q8,.slice q9 qa qb]] wx fun e w'=>e=.returned (.int .i64 (B5 (l[i]'hE).2.2 (l'[i]'hD).2.2))/\Gw wx w'):=Hd fun wx hx=>HI.o _ (List.getElem_mem hE) K K' (l'[i]'hD).2.2 wx _ _ (hU.later hx) (hV.later hx);have hC:Fw (Fw (Dv (l[i]'hE).1 (l'[i]'hD).1) (Fw (Dp (l[i]'hE).2.1 (l'[i]'hD).2.1) (B5 (l[i]'hE).2.2 (l'[i]'hD).2.2))) (C0 (fun f:Z8×Int×Ty=>[Dy.s f.1,.i f.2.1]++flat f.2.2) l l' (i+1))=res:=(by rw[<-Kz];exact hM);generalize B5 (l[i]'hE).2.2 (l'[i]'hD).2.2=oo at KO hC;generalize kB:(l[i]'hE).1=nm at hn hC;generalize hnm':(l'[i]'hD).1=nm' at hn' hC;generalize hY:(l[i]'hE).2.1=fl at hf hC;generalize hfl':(l'[i]'hD).2.1=fl' at hf' hC;have HC:Z9 (∀wx,Below wr.heap.size wr wx->(wx.cell? ⟨b,o+i*8,none⟩=some (.string nm)/\wx.cell? ⟨b',o'+i*8,none⟩=some (.string nm'))/\(wx.cell? ⟨b,o+i*8+1,none⟩=some (.int .i64 fl)/\wx.cell? ⟨b',o'+i*8+1,none⟩=some (.int .i64 fl'))/\(wx.cell? ⟨b,o+i*8+2,none⟩=some (.int .i64 p0)/\wx.cell? ⟨b,o+i*8+2+1,none⟩=some (.string p1)/\wx.cell? ⟨b,o+i*8+2+2,none⟩=some (.int .i64 p2)/\wx.cell? ⟨b,o+i*8+2+3,none⟩=some (.slice p3 p4 p5)/\wx.cell? ⟨b,o+i*8+2+4,none⟩=some (.slice p6 p7 p8)/\wx.cell? ⟨b,o+i*8+2+5,none⟩=some (.slice p9 pa pb))/\wx.cell? ⟨b',o'+i*8+2,none⟩=some (.int .i64 q0)/\wx.cell? ⟨b',o'+i*8+2+1,none⟩=some (.string q1)/\wx.cell? ⟨b',o'+i*8+2+2,none⟩=some (.int .i64 q2)/\wx.cell? ⟨b',o'+i*8+2+3,none⟩=some (.slice q3 q4 q5)/\wx.cell? ⟨b',o'+i*8+2+4,none⟩=some (.slice q6 q7 q8)/\wx.cell? ⟨b',o'+i*8+2+5,none⟩=some (.slice q9 qa qb)):=Hd fun wx hx=>⟨⟨Aa hx hn,Aa hx hn'⟩,⟨Aa hx hf,Aa hx hf'⟩,⟨Aa hx hp.1,Aa hx hp.2.1,Aa hx hp.2.2.1,Aa hx hp.2.2.2.1,Aa hx hp.2.2.2.2.1,Aa hx hp.2.2.2.2.2⟩,⟨Aa hx hq.1,Aa hx hq.2.1,Aa hx hq.2.2.1,Aa hx hq.2.2.2.1,Aa hx hq.2.2.2.2.1,Aa hx hq.2.2.2.2.2⟩⟩;have HV:=Hd hC;clear hS hat' hp hq hU hV hM hC hi hb hn hn' hf hf' kB hnm' hY hfl' hT hT';rcases Hm nm nm' with ⟨ga,gb,ge⟩|⟨ga,gb,ge⟩|⟨ga,gb,ge⟩
     ·have hG:Z9 (Fw (-1) (C0 (fun f:Z8×Int×Ty=>[Dy.s f.1,.i f.2.1]++flat f.2.2) l l' (i+1))=res):=Hd (by have h:=HV.o;rw[ge,Dr (a:=-1) (by decide)]at h;exact h);clear ge;go_wp2_with fail;refine wp_region_held_drew (S:=(fun w'=>(w'.cell? ⟨b,o+i*8,none⟩=some (.string nm)/\w'.cell? ⟨b',o'+i*8,none⟩=some (.string nm'))/\(w'.cell? ⟨b,o+i*8+1,none⟩=some (.int .i64 fl)/\w'.cell? ⟨b',o'+i*8+1,none⟩=some (.int .i64 fl'))/\(w'.cell? ⟨b,o+i*8+2,none⟩=some (.int .i64 p0)/\w'.cell? ⟨b,o+i*8+2+1,none⟩=some (.string p1)/\w'.cell? ⟨b,o+i*8+2+2,none⟩=some (.int .i64 p2)/\w'.cell? ⟨b,o+i*8+2+3,none⟩=some (.slice p3 p4 p5)/\w'.cell? ⟨b,o+i*8+2+4,none⟩=some (.slice p6 p7 p8)/\w'.cell? ⟨b,o+i*8+2+5,none⟩=some (.slice p9 pa pb))/\w'.cell? ⟨b',o'+i*8+2,none⟩=some (.int .i64 q0)/\w'.cell? ⟨b',o'+i*8+2+1,none⟩=some (.string q1)/\w'.cell? ⟨b',o'+i*8+2+2,none⟩=some (.int .i64 q2)/\w'.cell? ⟨b',o'+i*8+2+3,none⟩=some (.slice q3 q4 q5)/\w'.cell? ⟨b',o'+i*8+2+4,none⟩=some (.slice q6 q7 q8)/\w'.cell? ⟨b',o'+i*8+2+5,none⟩=some (.slice q9 qa qb))) (by kernel_rfl) (HC.o _ (Below.refl wr.heap.size wr).drew) (fun hB=>?_);refine Ab.s [0,1,2,3,4,5,6,7,8,9,10,11,12,13,14,15,16,17,18,19,20,21] ?_
      iterate 22 (refine Ab.k (so rfl) hB ?_;try simp only[Act.put,Bd,Be,Bf])
      refine Ab.d ?_;refine wpAnyH_ready (rs:=[22]) (by kernel_rfl) (by simp) ?_;refine AllReadyH.cons (sd (some 50) rfl) (fun K hK=>?_) AllReadyH.nil;go_simp;refine (Cv _ _ _).mono ?_;rintro e w2 ⟨rfl,rfl⟩;simp only[M7];go_wp2_with fail;refine hK.out _ _ (HC.o _ (Below.refl wr.heap.size wr).drew) (fun hB=>?_);clear hK K;try simp only[Act.put,Bd,Be,Bf]
      refine Ab.s [23] ?_;refine Ab.k (so rfl) hB ?_;try simp only[Act.put,Bd,Be,Bf]
      refine Ab.d ?_;refine wpAnyH_done (by kernel_rfl) ?_ _;clear hB;clear i0 i1 t1 ga gb;go_wp2_with fail;refine⟨⟨(-1),i+1,hJ.o,by first|rfl|trivial,by first|rfl|rw[hF],hG.o,HB.o.drew⟩,?_⟩;first|exact HM.o|(rw[hF];exact HM.o)
     ·have hG:Z9 (Fw 1 (C0 (fun f:Z8×Int×Ty=>[Dy.s f.1,.i f.2.1]++flat f.2.2) l l' (i+1))=res):=Hd (by have h:=HV.o;rw[ge,Dr (a:=1) (by decide)]at h;exact h);clear ge;go_wp2_with fail;refine wp_region_held_drew (S:=(fun w'=>(w'.cell? ⟨b,o+i*8,none⟩=some (.string nm)/\w'.cell? ⟨b',o'+i*8,none⟩=some (.string nm'))/\(w'.cell? ⟨b,o+i*8+1,none⟩=some (.int .i64 fl)/\w'.cell? ⟨b',o'+i*8+1,none⟩=some (.int .i64 fl'))/\(w'.cell? ⟨b,o+i*8+2,none⟩=some (.int .i64 p0)/\w'.cell? ⟨b,o+i*8+2+1,none⟩=some (.string p1)/\w'.cell? ⟨b,o+i*8+2+2,none⟩=some (.int .i64 p2)/\w'.cell? ⟨b,o+i*8+2+3,none⟩=some (.slice p3 p4 p5)/\w'.cell? ⟨b,o+i*8+2+4,none⟩=some (.slice p6 p7 p8)/\w'.cell? ⟨b,o+i*8+2+5,none⟩=some (.slice p9 pa pb))/\w'.cell? ⟨b',o'+i*8+2,none⟩=some (.int .i64 q0)/\w'.cell? ⟨b',o'+i*8+2+1,none⟩=some (.string q1)/\w'.cell? ⟨b',o'+i*8+2+2,none⟩=some (.int .i64 q2)/\w'.cell? ⟨b',o'+i*8+2+3,none⟩=some (.slice q3 q4 q5)/\w'.cell? ⟨b',o'+i*8+2+4,none⟩=some (.slice q6 q7 q8)/\w'.cell? ⟨b',o'+i*8+2+5,none⟩=some (.slice q9 qa qb))) (by kernel_rfl) (HC.o _ (Below.refl wr.heap.size wr).drew) (fun hB=>?_);refine Ab.s [0,1,2,3,4,5,6,7,8,9,10,11,12,13,14,15,16,17,18,19,20,21] ?_
      iterate 22 (refine Ab.k (so rfl) hB ?_;try simp only[Act.put,Bd,Be,Bf])
      refine Ab.d ?_;refine wpAnyH_ready (rs:=[22]) (by kernel_rfl) (by simp) ?_;refine AllReadyH.cons (sd (some 50) rfl) (fun K hK=>?_) AllReadyH.nil;go_simp;refine (Cv _ _ _).mono ?_;rintro e w2 ⟨rfl,rfl⟩;simp only[M7];go_wp2_with fail;refine hK.out _ _ (HC.o _ (Below.refl wr.heap.size wr).drew) (fun hB=>?_);clear hK K;try simp only[Act.put,Bd,Be,Bf]
      refine Ab.s [23] ?_;refine Ab.k (so rfl) hB ?_;try simp only[Act.put,Bd,Be,Bf]
      refine Ab.d ?_;refine wpAnyH_done (by kernel_rfl) ?_ _;clear hB;clear i0 i1 t1 ga gb;go_wp2_with fail;refine⟨⟨1,i+1,hJ.o,by first|rfl|trivial,by first|rfl|rw[hF],hG.o,HB.o.drew⟩,?_⟩;first|exact HM.o|(rw[hF];exact HM.o)
     ·have hQ:Z9 (Fw (Fw (Dp fl fl') oo) (C0 (fun f:Z8×Int×Ty=>[Dy.s f.1,.i f.2.1]++flat f.2.2) l l' (i+1))=res):=Hd (by have h:=HV.o;rw[ge,Bn]at h;exact h);clear ge;go_wp2_with fail;refine wp_region_held_drew (S:=(fun w'=>(w'.cell? ⟨b,o+i*8,none⟩=some (.string nm)/\w'.cell? ⟨b',o'+i*8,none⟩=some (.string nm'))/\(w'.cell? ⟨b,o+i*8+1,none⟩=some (.int .i64 fl)/\w'.cell? ⟨b',o'+i*8+1,none⟩=some (.int .i64 fl'))/\(w'.cell? ⟨b,o+i*8+2,none⟩=some (.int .i64 p0)/\w'.cell? ⟨b,o+i*8+2+1,none⟩=some (.string p1)/\w'.cell? ⟨b,o+i*8+2+2,none⟩=some (.int .i64 p2)/\w'.cell? ⟨b,o+i*8+2+3,none⟩=some (.slice p3 p4 p5)/\w'.cell? ⟨b,o+i*8+2+4,none⟩=some (.slice p6 p7 p8)/\w'.cell? ⟨b,o+i*8+2+5,none⟩=some (.slice p9 pa pb))/\w'.cell? ⟨b',o'+i*8+2,none⟩=some (.int .i64 q0)/\w'.cell? ⟨b',o'+i*8+2+1,none⟩=some (.string q1)/\w'.cell? ⟨b',o'+i*8+2+2,none⟩=some (.int .i64 q2)/\w'.cell? ⟨b',o'+i*8+2+3,none⟩=some (.slice q3 q4 q5)/\w'.cell? ⟨b',o'+i*8+2+4,none⟩=some (.slice q6 q7 q8)/\w'.cell? ⟨b',o'+i*8+2+5,none⟩=some (.slice q9 qa qb))) (by kernel_rfl) (HC.o _ (Below.refl wr.heap.size wr).drew) (fun hB=>?_);refine Ab.s [0,1,2,3,4,5,6,7,8,9,10,11,12,13,14,15,16,17,18,19,20,21] ?_
      iterate 22 (refine Ab.k (so rfl) hB ?_;try simp only[Act.put,Bd,Be,Bf])
      refine Ab.d ?_;refine wpAnyH_ready (rs:=[22]) (by kernel_rfl) (by simp) ?_;refine AllReadyH.cons (sd (some 50) rfl) (fun K hK=>?_) AllReadyH.nil;go_simp;refine (Cv _ _ _).mono ?_;rintro e w2 ⟨rfl,rfl⟩;simp only[M7];go_wp2_with fail;refine hK.out _ _ (HC.o _ (Below.refl wr.heap.size wr).drew) (fun hB=>?_);clear hK K;try simp only[Act.put,Bd,Be,Bf]
      refine Ab.s [23] ?_;refine Ab.k (so rfl) hB ?_;try simp only[Act.put,Bd,Be,Bf]
      refine Ab.d ?_;refine wpAnyH_done (by kernel_rfl) ?_ _;clear hB;clear ga gb;go_wp2_with fail;rcases Gj fl fl' with ⟨ga,gb,ge⟩|⟨ga,gb,ge⟩|⟨ga,gb,ge⟩
      ·have hG:Z9 (Fw (-1) (C0 (fun f:Z8×Int×Ty=>[Dy.s f.1,.i f.2.1]++flat f.2.2) l l' (i+1))=res):=Hd (by have h:=hQ.o;rw[ge,Dr (a:=-1) (by decide)]at h;exact h);have g1:decide (fl<fl')=true:=(by simpa using ga);have g2:decide (fl'<fl)=false:=(by simpa using gb);clear ge;go_wp2_with fail;refine wp_region_held_drew (S:=(fun w'=>(w'.cell? ⟨b,o+i*8,none⟩=some (.string nm)/\w'.cell? ⟨b',o'+i*8,none⟩=some (.string nm'))/\(w'.cell? ⟨b,o+i*8+1,none⟩=some (.int .i64 fl)/\w'.cell? ⟨b',o'+i*8+1,none⟩=some (.int .i64 fl'))/\(w'.cell? ⟨b,o+i*8+2,none⟩=some (.int .i64 p0)/\w'.cell? ⟨b,o+i*8+2+1,none⟩=some (.string p1)/\w'.cell? ⟨b,o+i*8+2+2,none⟩=some (.int .i64 p2)/\w'.cell? ⟨b,o+i*8+2+3,none⟩=some (.slice p3 p4 p5)/\w'.cell? ⟨b,o+i*8+2+4,none⟩=some (.slice p6 p7 p8)/\w'.cell? ⟨b,o+i*8+2+5,none⟩=some (.slice p9 pa pb))/\w'.cell? ⟨b',o'+i*8+2,none⟩=some (.int .i64 q0)/\w'.cell? ⟨b',o'+i*8+2+1,none⟩=some (.string q1)/\w'.cell? ⟨b',o'+i*8+2+2,none⟩=some (.int .i64 q2)/\w'.cell? ⟨b',o'+i*8+2+3,none⟩=some (.slice q3 q4 q5)/\w'.cell? ⟨b',o'+i*8+2+4,none⟩=some (.slice q6 q7 q8)/\w'.cell? ⟨b',o'+i*8+2+5,none⟩=some (.slice q9 qa qb))) (by kernel_rfl) (HC.o _ (Below.refl wr.heap.size wr).drew.drew) (fun hB=>?_);refine Ab.s [0,1,2,3,4,5,6,7,8,9,10,11,12,13,14,15,16,17,18,19,20,21] ?_
       iterate 22 (refine Ab.k (so rfl) hB ?_;try simp only[Act.put,Bd,Be,Bf])
       refine Ab.d ?_;refine wpAnyH_ready (rs:=[22]) (by kernel_rfl) (by simp) ?_;refine AllReadyH.cons (sd (some 75) rfl) (fun K hK=>?_) AllReadyH.nil;go_simp;refine (Cv _ _ _).mono ?_;rintro e w2 ⟨rfl,rfl⟩;simp only[M7];go_wp2_with fail;refine hK.out _ _ (HC.o _ (Below.refl wr.heap.size wr).drew.drew) (fun hB=>?_);clear hK K;try simp only[Act.put,Bd,Be,Bf]
       refine Ab.s [23] ?_;refine Ab.k (so rfl) hB ?_;try simp only[Act.put,Bd,Be,Bf]
       refine Ab.d ?_;refine wpAnyH_done (by kernel_rfl) ?_ _;clear hB;clear i0 i1 t1;go_wp2_with fail;refine⟨⟨(-1),i+1,hJ.o,by first|rfl|trivial,by first|rfl|rw[hF],hG.o,HB.o.drew.drew⟩,?_⟩;first|exact HM.o|(rw[hF];exact HM.o)
      ·have hG:Z9 (Fw 1 (C0 (fun f:Z8×Int×Ty=>[Dy.s f.1,.i f.2.1]++flat f.2.2) l l' (i+1))=res):=Hd (by have h:=hQ.o;rw[ge,Dr (a:=1) (by decide)]at h;exact h);have g1:decide (fl<fl')=false:=(by simpa using ga);have g2:decide (fl'<fl)=true:=(by simpa using gb);clear ge;go_wp2_with fail;refine wp_region_held_drew (S:=(fun w'=>(w'.cell? ⟨b,o+i*8,none⟩=some (.string nm)/\w'.cell? ⟨b',o'+i*8,none⟩=some (.string nm'))/\(w'.cell? ⟨b,o+i*8+1,none⟩=some (.int .i64 fl)/\w'.cell? ⟨b',o'+i*8+1,none⟩=some (.int .i64 fl'))/\(w'.cell? ⟨b,o+i*8+2,none⟩=some (.int .i64 p0)/\w'.cell? ⟨b,o+i*8+2+1,none⟩=some (.string p1)/\w'.cell? ⟨b,o+i*8+2+2,none⟩=some (.int .i64 p2)/\w'.cell? ⟨b,o+i*8+2+3,none⟩=some (.slice p3 p4 p5)/\w'.cell? ⟨b,o+i*8+2+4,none⟩=some (.slice p6 p7 p8)/\w'.cell? ⟨b,o+i*8+2+5,none⟩=some (.slice p9 pa pb))/\w'.cell? ⟨b',o'+i*8+2,none⟩=some (.int .i64 q0)/\w'.cell? ⟨b',o'+i*8+2+1,none⟩=some (.string q1)/\w'.cell? ⟨b',o'+i*8+2+2,none⟩=some (.int .i64 q2)/\w'.cell? ⟨b',o'+i*8+2+3,none⟩=some (.slice q3 q4 q5)/\w'.cell? ⟨b',o'+i*8+2+4,none⟩=some (.slice q6 q7 q8)/\w'.cell? ⟨b',o'+i*8+2+5,none⟩=some (.slice q9 qa qb))) (by kernel_rfl) (HC.o _ (Below.refl wr.heap.size wr).drew.drew) (fun hB=>?_);refine Ab.s [0,1,2,3,4,5,6,7,8,9,10,11,12,13,14,15,16,17,18,19,20,21] ?_
       iterate 22 (refine Ab.k (so rfl) hB ?_;try simp only[Act.put,Bd,Be,Bf])
       refine Ab.d ?_;refine wpAnyH_ready (rs:=[22]) (by kernel_rfl) (by simp) ?_;refine AllReadyH.cons (sd (some 75) rfl) (fun K hK=>?_) AllReadyH.nil;go_simp;refine (Cv _ _ _).mono ?_;rintro e w2 ⟨rfl,rfl⟩;simp only[M7];go_wp2_with fail;refine hK.out _ _ (HC.o _ (Below.refl wr.heap.size wr).drew.drew) (fun hB=>?_);clear hK K;try simp only[Act.put,Bd,Be,Bf]
       refine Ab.s [23] ?_;refine Ab.k (so rfl) hB ?_;try simp only[Act.put,Bd,Be,Bf]
       refine Ab.d ?_;refine wpAnyH_done (by kernel_rfl) ?_ _;clear hB;clear i0 i1 t1;go_wp2_with fail;refine⟨⟨1,i+1,hJ.o,by first|rfl|trivial,by first|rfl|rw[hF],hG.o,HB.o.drew.drew⟩,?_⟩;first|exact HM.o|(rw[hF];exact HM.o)
      ·have hG:Z9 (Fw oo (C0 (fun f:Z8×Int×Ty=>[Dy.s f.1,.i f.2.1]++flat f.2.2) l l' (i+1))=res):=Hd (by have h:=hQ.o;rw[ge,Bn]at h;exact h);have g1:decide (fl<fl')=false:=(by simpa using ga);have g2:decide (fl'<fl)=false:=(by simpa using gb);clear ge;go_wp2_with fail;refine wp_region_held_drew (S:=(fun w'=>(w'.cell? ⟨b,o+i*8,none⟩=some (.string nm)/\w'.cell? ⟨b',o'+i*8,none⟩=some (.string nm'))/\(w'.cell? ⟨b,o+i*8+1,none⟩=some (.int .i64 fl)/\w'.cell? ⟨b',o'+i*8+1,none⟩=some (.int .i64 fl'))/\(w'.cell? ⟨b,o+i*8+2,none⟩=some (.int .i64 p0)/\w'.cell? ⟨b,o+i*8+2+1,none⟩=some (.string p1)/\w'.cell? ⟨b,o+i*8+2+2,none⟩=some (.int .i64 p2)/\w'.cell? ⟨b,o+i*8+2+3,none⟩=some (.slice p3 p4 p5)/\w'.cell? ⟨b,o+i*8+2+4,none⟩=some (.slice p6 p7 p8)/\w'.cell? ⟨b,o+i*8+2+5,none⟩=some (.slice p9 pa pb))/\w'.cell? ⟨b',o'+i*8+2,none⟩=some (.int .i64 q0)/\w'.cell? ⟨b',o'+i*8+2+1,none⟩=some (.string q1)/\w'.cell? ⟨b',o'+i*8+2+2,none⟩=some (.int .i64 q2)/\w'.cell? ⟨b',o'+i*8+2+3,none⟩=some (.slice q3 q4 q5)/\w'.cell? ⟨b',o'+i*8+2+4,none⟩=some (.slice q6 q7 q8)/\w'.cell? ⟨b',o'+i*8+2+5,none⟩=some (.slice q9 qa qb))) (by kernel_rfl) (HC.o _ (Below.refl wr.heap.size wr).drew.drew) (fun hB=>?_);refine Ab.s [0,1,2,3,4,5,6,7,8,9,10,11,12,13,14,15,16,17,18,19,20,21] ?_
       iterate 22 (refine Ab.k (so rfl) hB ?_;try simp only[Act.put,Bd,Be,Bf])
       refine Ab.d ?_;refine wpAnyH_ready (rs:=[22]) (by kernel_rfl) (by simp) ?_;refine AllReadyH.cons (sd (some 75) rfl) (fun K hK=>?_) AllReadyH.nil;go_simp;refine (Cv _ _ _).mono ?_;rintro e w2 ⟨rfl,rfl⟩;simp only[M7];go_wp2_with fail;refine hK.out _ _ (HC.o _ (Below.refl wr.heap.size wr).drew.drew) (fun hB=>?_);clear hK K;try simp only[Act.put,Bd,Be,Bf]
       refine Ab.s [23] ?_;refine Ab.k (so rfl) hB ?_;try simp only[Act.put,Bd,Be,Bf]
       refine Ab.d ?_;refine wpAnyH_done (by kernel_rfl) ?_ _;clear hB;clear ga gb;go_wp2_with fail;refine wp_region_held_drew (S:=(fun w'=>(w'.cell? ⟨b,o+i*8,none⟩=some (.string nm)/\w'.cell? ⟨b',o'+i*8,none⟩=some (.string nm'))/\(w'.cell? ⟨b,o+i*8+1,none⟩=some (.int .i64 fl)/\w'.cell? ⟨b',o'+i*8+1,none⟩=some (.int .i64 fl'))/\(w'.cell? ⟨b,o+i*8+2,none⟩=some (.int .i64 p0)/\w'.cell? ⟨b,o+i*8+2+1,none⟩=some (.string p1)/\w'.cell? ⟨b,o+i*8+2+2,none⟩=some (.int .i64 p2)/\w'.cell? ⟨b,o+i*8+2+3,none⟩=some (.slice p3 p4 p5)/\w'.cell? ⟨b,o+i*8+2+4,none⟩=some (.slice p6 p7 p8)/\w'.cell? ⟨b,o+i*8+2+5,none⟩=some (.slice p9 pa pb))/\w'.cell? ⟨b',o'+i*8+2,none⟩=some (.int .i64 q0)/\w'.cell? ⟨b',o'+i*8+2+1,none⟩=some (.string q1)/\w'.cell? ⟨b',o'+i*8+2+2,none⟩=some (.int .i64 q2)/\w'.cell? ⟨b',o'+i*8+2+3,none⟩=some (.slice q3 q4 q5)/\w'.cell? ⟨b',o'+i*8+2+4,none⟩=some (.slice q6 q7 q8)/\w'.cell? ⟨b',o'+i*8+2+5,none⟩=some (.slice q9 qa qb))) (by kernel_rfl) (HC.o _ (Below.refl wr.heap.size wr).drew.drew.drew) (fun hB=>?_);refine Ab.s [0,1,2,3,4,5,6,7,8,9] ?_
       iterate 10 (refine Ab.k (so rfl) hB ?_;try simp only[Act.put,Bd,Be,Bf])
       refine Ab.d ?_;refine wpAnyH_ready (rs:=[10]) (by kernel_rfl) (by simp) ?_;refine AllReadyH.cons (sd (some 88) rfl) (fun K hK=>?_) AllReadyH.nil;go_simp;refine (KO.o _ (Below.refl wr.heap.size wr).drew.drew.drew).mono ?_;rintro e w2 ⟨rfl,hR⟩;have hW:=Hd ((Below.refl wr.heap.size wr).drew.drew.drew.trans hR.below);have hX:=Hd ((HB.o.drew.drew.drew).trans hR);clear hR;go_wp2_with fail;refine hK.out _ _ (HC.o _ hW.o) (fun hB=>?_);clear hK K;try simp only[Act.put,Bd,Be,Bf]
       refine Ab.s [11] ?_;refine Ab.k (so rfl) hB ?_;try simp only[Act.put,Bd,Be,Bf]
       refine Ab.d ?_;refine wpAnyH_done (by kernel_rfl) ?_ _;clear hB;clear i0 i1 t1;go_wp2_with fail;refine⟨⟨oo,i+1,hJ.o,by first|rfl|trivial,by first|rfl|rw[hF],hG.o,hX.o⟩,?_⟩;first|exact HM.o|(rw[hF];exact HM.o)
    ·have t1:decide ((i:Int)<(l.length:Int))=false:=(by simp;omega);have HR:Z9 (res=0):=Hd (by
      have h:=HO.o;rw[show i=l.length from by omega,Hc (fun f:Z8×Int×Ty=>[Dy.s f.1,.i f.2.1]++flat f.2.2) hO.o,Bn]at h;exact h.symm)
     clear hi hb;go_wp2_with fail;go_ret
     exact⟨by rw[HR.o];rfl,HB.o⟩
   ·have kC:(cc == 0)=false:=(by simpa using hN);have HR:Z9 (res=cc):=Hd (by rw[<-HO.o,Dr hN]);clear hi hb hN;go_wp2_with fail;go_ret
    exact⟨by rw[HR.o];rfl,HB.o⟩
 ·rw[Iy (fun f:Z8×Int×Ty=>[Dy.s f.1,.i f.2.1]++flat f.2.2) hH];rcases Gj (l.length:Int) (l'.length:Int) with ⟨ha,hb,he⟩|⟨ha,hb,he⟩|⟨ha,hb,he⟩
  ·have HE:=Hd he;have n1:l.length<l'.length:=by omega
   have n2:¬ l'.length<l.length:=by omega
   clear he hH ha hb;go_enter Tryz.func46,Tryz.ntmps46;go_wp2_with fail;refine (Cv _ _ _).mono ?_;rintro e w1 ⟨rfl,rfl⟩;simp only[M7];go_wp2_with fail
   go_loopw [5,6] (fun vc _ wr=>vc=.int .i64 (-1)/\wr=w1) (fun _ _ _=>0)
   case atStart=>exact⟨by first|rfl|simp,rfl⟩
   case round=>
    obtain⟨rfl,rfl⟩:=hrel;go_wp2_with fail;go_ret
    exact⟨by rw[HE.o];rfl,Gw.refl _⟩
  ·have HE:=Hd he;have n1:¬ l.length<l'.length:=by omega
   have n2:l'.length<l.length:=by omega
   clear he hH ha hb;go_enter Tryz.func46,Tryz.ntmps46;go_wp2_with fail;refine (Cv _ _ _).mono ?_;rintro e w1 ⟨rfl,rfl⟩;simp only[M7];go_wp2_with fail
   go_loopw [5,6] (fun vc _ wr=>vc=.int .i64 (1)/\wr=w1) (fun _ _ _=>0)
   case atStart=>exact⟨by first|rfl|simp,rfl⟩
   case round=>
    obtain⟨rfl,rfl⟩:=hrel;go_wp2_with fail;go_ret
    exact⟨by rw[HE.o];rfl,Gw.refl _⟩
  ·exact absurd hH (by omega)
theorem Jat (l l':Bt) (h:∀v∈l,∀b∈v.2,O9 b) {K K':Nat->Prop}{w:World}{A A':Option Addr}{c c':Nat}(h1:Da K w l A c) (h2:Da K' w l' A' c') :
  Calls Tryz.prog 47 #[.slice A l.length c,.slice A' l'.length c'] w fun e w'=>e=.returned (.int .i64 (Ca (Fj (fun v:Z8×List Ty=>Dy.s v.1 :: Bw v.2) l) (Fj (fun v:Z8×List Ty=>Dy.s v.1 :: Bw v.2) l')))/\Gw w w':=by
 have H1:=Hd h1;have H2:=Hd h2;have HI:=Hd h;have kC:l.length<=1000000000000000:=by obtain⟨_,_,hr,_⟩:=h1;exact hr.big
 have hZ:l'.length<=1000000000000000:=by obtain⟨_,_,hr,_⟩:=h2;exact hr.big
 clear h h1 h2;by_cases hF:l.length=l'.length
 ·rw[He (fun v:Z8×List Ty=>Dy.s v.1 :: Bw v.2) hF];generalize hI:C0 (fun v:Z8×List Ty=>Dy.s v.1 :: Bw v.2) l l' 0=res;have hO:=Hd hI;have hM:=Hd hF;rw[<-hF];have hY:¬ l.length<l.length:=Nat.lt_irrefl _;clear hI hF hZ;go_enter Tryz.func47,Tryz.ntmps47;go_wp2_with fail;refine (Cv _ _ _).mono ?_;rintro e w1 ⟨rfl,rfl⟩;simp only[M7];go_wp2_with fail
  go_loopw [5,6] (fun vc vi wr=>∃(cc:Int) (i:Nat),i<=l.length/\vc=.int .i64 cc/\vi=.int .i64 i/\Fw cc (C0 (fun v:Z8×List Ty=>Dy.s v.1 :: Bw v.2) l l' i)=res/\Gw w1 wr) (fun _ vi _=>l.length - (intOf vi).toNat)
  case atStart=>exact⟨0,0,by omega,by first|rfl|simp,rfl,by rw[Bn];exact hO.o,Gw.refl _⟩
  case round=>
   obtain⟨cc,i,hi,rfl,rfl,ho,hb⟩:=hrel;have HO:=Hd ho;have HB:=Hd hb;clear ho;by_cases hL:cc=0
   ·subst hL;by_cases hE:i<l.length
    ·have t1:decide ((i:Int)<(l.length:Int))=true:=(by simp;omega);have hH:wrap64 ((i:Int)+1)=((i+1:Nat):Int):=Ba (by omega);have HM:=Hd (Bg hE);have hD:i<l'.length:=(by rw[<-hM.o];exact hE);have hG:=Gh (fun v:Z8×List Ty=>Dy.s v.1 :: Bw v.2) Pe hM.o hE hD;have hJ:Fw (Ca ((fun v:Z8×List Ty=>Dy.s v.1 :: Bw v.2) l[i]) ((fun v:Z8×List Ty=>Dy.s v.1 :: Bw v.2) l'[i])) (C0 (fun v:Z8×List Ty=>Dy.s v.1 :: Bw v.2) l l' (i+1))=res:=(by rw[<-hG,<-Bn (C0 (fun v:Z8×List Ty=>Dy.s v.1 :: Bw v.2) l l' i)];exact HO.o);obtain⟨b,o,hA,_,hS⟩:=H1.o.at (by omega);obtain⟨b',o',hA',_,hat'⟩:=H2.o.at (by omega);subst hA hA';have i0:(0:Int)<=(i:Int):=(by omega);have i1:(i:Int)<(l.length:Int):=(by omega);clear hG;have hN:Z9 (i+1<=l.length):=Hd hE;obtain⟨B,d,hn,hf,-,hT⟩:=hS i hE;obtain⟨B',d',hn',hf',-,hT'⟩:=hat' i hD
     replace hn:=Aa (w:=w1) (w':=wr) hb.below hn
     replace hn':=Aa (w:=w1) (w':=wr) hb.below hn'
     replace hf:=Aa (w:=w1) (w':=wr) hb.below hf
     replace hf':=Aa (w:=w1) (w':=wr) hb.below hf'
     replace hT:=hT.later (w':=wr) hb.below
     replace hT':=hT'.later (w':=wr) hb.below
     have hR:=HI.o _ (List.getElem_mem hE);have hC:Fw (Fw (Dv (l[i]'hE).1 (l'[i]'hD).1) (Ca (Bw (l[i]'hE).2) (Bw (l'[i]'hD).2))) (C0 (fun v:Z8×List Ty=>Dy.s v.1 :: Bw v.2) l l' (i+1))=res:=(by rw[<-O8];exact hJ);generalize kA:(l[i]'hE).1=nm at hn hC;generalize hnm':(l'[i]'hD).1=nm' at hn' hC;generalize hX:(l[i]'hE).2=bl at hf hC hT hR;generalize hfl':(l'[i]'hD).2=bl' at hf' hC hT';have KO:Z9 (∀wx,Below wr.heap.size wr wx->Calls Tryz.prog 45 #[.slice B bl.length d,.slice B' bl'.length d'] wx fun e w'=>e=.returned (.int .i64 (Ca (Bw bl) (Bw bl')))/\Gw wx w'):=Hd fun wx hx=>Ry bl bl' hR (hT.later hx) (hT'.later hx);generalize Ca (Bw bl) (Bw bl')=oo at KO hC;have HC:Z9 (∀wx,Below wr.heap.size wr wx->(wx.cell? ⟨b,o+i*2,none⟩=some (.string nm)/\wx.cell? ⟨b',o'+i*2,none⟩=some (.string nm'))/\wx.cell? ⟨b,o+i*2+1,none⟩=some (.slice B bl.length d)/\wx.cell? ⟨b',o'+i*2+1,none⟩=some (.slice B' bl'.length d')):=Hd fun wx hx=>⟨⟨Aa hx hn,Aa hx hn'⟩,Aa hx hf,Aa hx hf'⟩;have HV:=Hd hC;clear hS hat' hJ hC hi hb hn hn' hf hf' kA hnm' hX hfl' hT hT' hR;rcases Hm nm nm' with ⟨ga,gb,ge⟩|⟨ga,gb,ge⟩|⟨ga,gb,ge⟩
     ·have hP:Z9 (Fw (-1) (C0 (fun v:Z8×List Ty=>Dy.s v.1 :: Bw v.2) l l' (i+1))=res):=Hd (by have h:=HV.o;rw[ge,Dr (a:=-1) (by decide)]at h;exact h);clear ge;go_wp2_with fail;refine wp_region_held_drew (S:=(fun w'=>(w'.cell? ⟨b,o+i*2,none⟩=some (.string nm)/\w'.cell? ⟨b',o'+i*2,none⟩=some (.string nm'))/\w'.cell? ⟨b,o+i*2+1,none⟩=some (.slice B bl.length d)/\w'.cell? ⟨b',o'+i*2+1,none⟩=some (.slice B' bl'.length d'))) (by kernel_rfl) (HC.o _ (Below.refl wr.heap.size wr).drew) (fun hB=>?_);refine Ab.s [0,1,2,3,4,5,6,7,8,9,10,11,12,13,14,15,16,17,18,19,20,21] ?_
      iterate 22 (refine Ab.k (so rfl) hB ?_;try simp only[Act.put,Bd,Be,Bf])
      refine Ab.d ?_;refine wpAnyH_ready (rs:=[22]) (by kernel_rfl) (by simp) ?_;refine AllReadyH.cons (sd (some 50) rfl) (fun K hK=>?_) AllReadyH.nil;go_simp;refine (Cv _ _ _).mono ?_;rintro e w2 ⟨rfl,rfl⟩;simp only[M7];go_wp2_with fail;refine hK.out _ _ (HC.o _ (Below.refl wr.heap.size wr).drew) (fun hB=>?_);clear hK K;try simp only[Act.put,Bd,Be,Bf]
      refine Ab.s [23] ?_;refine Ab.k (so rfl) hB ?_;try simp only[Act.put,Bd,Be,Bf]
      refine Ab.d ?_;refine wpAnyH_done (by kernel_rfl) ?_ _;clear hB;clear i0 i1 t1 ga gb;go_wp2_with fail;refine⟨⟨(-1),i+1,hN.o,by first|rfl|trivial,by first|rfl|rw[hH],hP.o,HB.o.drew⟩,?_⟩;first|exact HM.o|(rw[hH];exact HM.o)
     ·have hP:Z9 (Fw 1 (C0 (fun v:Z8×List Ty=>Dy.s v.1 :: Bw v.2) l l' (i+1))=res):=Hd (by have h:=HV.o;rw[ge,Dr (a:=1) (by decide)]at h;exact h);clear ge;go_wp2_with fail;refine wp_region_held_drew (S:=(fun w'=>(w'.cell? ⟨b,o+i*2,none⟩=some (.string nm)/\w'.cell? ⟨b',o'+i*2,none⟩=some (.string nm'))/\w'.cell? ⟨b,o+i*2+1,none⟩=some (.slice B bl.length d)/\w'.cell? ⟨b',o'+i*2+1,none⟩=some (.slice B' bl'.length d'))) (by kernel_rfl) (HC.o _ (Below.refl wr.heap.size wr).drew) (fun hB=>?_);refine Ab.s [0,1,2,3,4,5,6,7,8,9,10,11,12,13,14,15,16,17,18,19,20,21] ?_
      iterate 22 (refine Ab.k (so rfl) hB ?_;try simp only[Act.put,Bd,Be,Bf])
      refine Ab.d ?_;refine wpAnyH_ready (rs:=[22]) (by kernel_rfl) (by simp) ?_;refine AllReadyH.cons (sd (some 50) rfl) (fun K hK=>?_) AllReadyH.nil;go_simp;refine (Cv _ _ _).mono ?_;rintro e w2 ⟨rfl,rfl⟩;simp only[M7];go_wp2_with fail;refine hK.out _ _ (HC.o _ (Below.refl wr.heap.size wr).drew) (fun hB=>?_);clear hK K;try simp only[Act.put,Bd,Be,Bf]
      refine Ab.s [23] ?_;refine Ab.k (so rfl) hB ?_;try simp only[Act.put,Bd,Be,Bf]
      refine Ab.d ?_;refine wpAnyH_done (by kernel_rfl) ?_ _;clear hB;clear i0 i1 t1 ga gb;go_wp2_with fail;refine⟨⟨1,i+1,hN.o,by first|rfl|trivial,by first|rfl|rw[hH],hP.o,HB.o.drew⟩,?_⟩;first|exact HM.o|(rw[hH];exact HM.o)
     ·have hW:Z9 (Fw (oo) (C0 (fun v:Z8×List Ty=>Dy.s v.1 :: Bw v.2) l l' (i+1))=res):=Hd (by have h:=HV.o;rw[ge,Bn]at h;exact h);clear ge;go_wp2_with fail;refine wp_region_held_drew (S:=(fun w'=>(w'.cell? ⟨b,o+i*2,none⟩=some (.string nm)/\w'.cell? ⟨b',o'+i*2,none⟩=some (.string nm'))/\w'.cell? ⟨b,o+i*2+1,none⟩=some (.slice B bl.length d)/\w'.cell? ⟨b',o'+i*2+1,none⟩=some (.slice B' bl'.length d'))) (by kernel_rfl) (HC.o _ (Below.refl wr.heap.size wr).drew) (fun hB=>?_);refine Ab.s [0,1,2,3,4,5,6,7,8,9,10,11,12,13,14,15,16,17,18,19,20,21] ?_
      iterate 22 (refine Ab.k (so rfl) hB ?_;try simp only[Act.put,Bd,Be,Bf])
      refine Ab.d ?_;refine wpAnyH_ready (rs:=[22]) (by kernel_rfl) (by simp) ?_;refine AllReadyH.cons (sd (some 50) rfl) (fun K hK=>?_) AllReadyH.nil;go_simp;refine (Cv _ _ _).mono ?_;rintro e w2 ⟨rfl,rfl⟩;simp only[M7];go_wp2_with fail;refine hK.out _ _ (HC.o _ (Below.refl wr.heap.size wr).drew) (fun hB=>?_);clear hK K;try simp only[Act.put,Bd,Be,Bf]
      refine Ab.s [23] ?_;refine Ab.k (so rfl) hB ?_;try simp only[Act.put,Bd,Be,Bf]
      refine Ab.d ?_;refine wpAnyH_done (by kernel_rfl) ?_ _;clear hB;clear ga gb;go_wp2_with fail;refine wp_region_held_drew (S:=(fun w'=>(w'.cell? ⟨b,o+i*2,none⟩=some (.string nm)/\w'.cell? ⟨b',o'+i*2,none⟩=some (.string nm'))/\w'.cell? ⟨b,o+i*2+1,none⟩=some (.slice B bl.length d)/\w'.cell? ⟨b',o'+i*2+1,none⟩=some (.slice B' bl'.length d'))) (by kernel_rfl) (HC.o _ (Below.refl wr.heap.size wr).drew.drew) (fun hB=>?_);refine Ab.s [0,1,2,3,4,5,6,7,8,9] ?_
      iterate 10 (refine Ab.k (so rfl) hB ?_;try simp only[Act.put,Bd,Be,Bf])
      refine Ab.d ?_;refine wpAnyH_ready (rs:=[10]) (by kernel_rfl) (by simp) ?_;refine AllReadyH.cons (sd (some 63) rfl) (fun K hK=>?_) AllReadyH.nil;go_simp;refine (KO.o _ (Below.refl wr.heap.size wr).drew.drew).mono ?_;rintro e w2 ⟨rfl,hQ⟩;have hU:=Hd ((Below.refl wr.heap.size wr).drew.drew.trans hQ.below);have hV:=Hd ((HB.o.drew.drew).trans hQ);clear hQ;go_wp2_with fail;refine hK.out _ _ (HC.o _ hU.o) (fun hB=>?_);clear hK K;try simp only[Act.put,Bd,Be,Bf]
      refine Ab.s [11] ?_;refine Ab.k (so rfl) hB ?_;try simp only[Act.put,Bd,Be,Bf]
      refine Ab.d ?_;refine wpAnyH_done (by kernel_rfl) ?_ _;clear hB;clear i0 i1 t1;go_wp2_with fail;refine⟨⟨oo,i+1,hN.o,by first|rfl|trivial,by first|rfl|rw[hH],hW.o,hV.o⟩,?_⟩;first|exact HM.o|(rw[hH];exact HM.o)
    ·have t1:decide ((i:Int)<(l.length:Int))=false:=(by simp;omega);have HR:Z9 (res=0):=Hd (by
      have h:=HO.o;rw[show i=l.length from by omega,Hc (fun v:Z8×List Ty=>Dy.s v.1 :: Bw v.2) hM.o,Bn]at h;exact h.symm)
     clear hi hb;go_wp2_with fail;go_ret
     exact⟨by rw[HR.o];rfl,HB.o⟩
   ·have kB:(cc == 0)=false:=(by simpa using hL);have HR:Z9 (res=cc):=Hd (by rw[<-HO.o,Dr hL]);clear hi hb hL;go_wp2_with fail;go_ret
    exact⟨by rw[HR.o];rfl,HB.o⟩
 ·rw[Iy (fun v:Z8×List Ty=>Dy.s v.1 :: Bw v.2) hF];rcases Gj (l.length:Int) (l'.length:Int) with ⟨ha,hb,he⟩|⟨ha,hb,he⟩|⟨ha,hb,he⟩
  ·have HE:=Hd he;have n1:l.length<l'.length:=by omega
   have n2:¬ l'.length<l.length:=by omega
   clear he hF ha hb;go_enter Tryz.func47,Tryz.ntmps47;go_wp2_with fail;refine (Cv _ _ _).mono ?_;rintro e w1 ⟨rfl,rfl⟩;simp only[M7];go_wp2_with fail
   go_loopw [5,6] (fun vc _ wr=>vc=.int .i64 (-1)/\wr=w1) (fun _ _ _=>0)
   case atStart=>exact⟨by first|rfl|simp,rfl⟩
   case round=>
    obtain⟨rfl,rfl⟩:=hrel;go_wp2_with fail;go_ret
    exact⟨by rw[HE.o];rfl,Gw.refl _⟩
  ·have HE:=Hd he;have n1:¬ l.length<l'.length:=by omega
   have n2:l'.length<l.length:=by omega
   clear he hF ha hb;go_enter Tryz.func47,Tryz.ntmps47;go_wp2_with fail;refine (Cv _ _ _).mono ?_;rintro e w1 ⟨rfl,rfl⟩;simp only[M7];go_wp2_with fail
   go_loopw [5,6] (fun vc _ wr=>vc=.int .i64 (1)/\wr=w1) (fun _ _ _=>0)
   case atStart=>exact⟨by first|rfl|simp,rfl⟩
   case round=>
    obtain⟨rfl,rfl⟩:=hrel;go_wp2_with fail;go_ret
    exact⟨by rw[HE.o];rfl,Gw.refl _⟩
  ·exact absurd hF (by omega)
def okV (l:List (Z8×List Bool)) (i:Nat):Bool:=match l[i]? with
 | none=>true
 | some v=>B6 v.1 && decide (v.2.length<=1) && v.2.all id && !((l.take i).any fun x=>decide (x.1=v.1))
def Eo (l:List (Z8×List Bool)):Bool:=(List.range l.length).all (okV l)
def R7 (l:List (Z8×Int×Bool)) (i:Nat):Bool:=match l[i]? with
 | none=>true
 | some f=>B6 f.1 && decide (0<=f.2.1) && decide (f.2.1<=3) && f.2.2 && (match i with|0=>true|j+1=>match l[j]? with|none=>true|some p=>Go.Op.bytesLess p.1.toList f.1.toList)
def Co (l:List (Z8×Int×Bool)):Bool:=(List.range l.length).all (R7 l)
def Bs (k:Int) (t:Z8) (n:Int) (ps:List Ty) (fo vo:Bool):Bool:=
 if k=9 then decide (0<=n) else if k=16\/k=22\/k=17 then B6 t else if k=13 then vo else if k=14 then fo else if k=15 then H5 ps
 else if k=20 then B6 t && decide (0<=n) && decide (n<=3) else if k=21 then (n == 0 && t.toList == []) || (n == 1 && B6 t) else if k=23 then ps.all fun p=>p.k == 13 else true
def Aj:Ty->Bool
 | .mk k t n ps fs vs=>(Ak k).known && Ao (Ak k) t n ps.length fs.length vs.length && Bs k t n ps (Co (fs.attach.map fun ⟨f,_⟩=>(f.1,f.2.1,Aj f.2.2))) (Eo (vs.attach.map fun ⟨v,_⟩=>(v.1,v.2.attach.map fun ⟨b,_⟩=>Aj b))) && (ps.attach.map fun ⟨p,_⟩=>Aj p).all id
termination_by t=>SizeOf.sizeOf t
decreasing_by
 ·exact Ei ‹_›
 ·exact E2 ‹_› ‹_›
 ·exact D2 ‹_›
def Bq (fs:Bx) (fv:Ty->Bool):List (Z8×Int×Bool):=fs.map fun f=>(f.1,f.2.1,fv f.2.2)
def Dj (vs:Bt) (fv:Ty->Bool):List (Z8×List Bool):=vs.map fun v=>(v.1,v.2.map fv)
theorem Ay (k t n ps fs vs):Aj (.mk k t n ps fs vs)=((Ak k).known && Ao (Ak k) t n ps.length fs.length vs.length && Bs k t n ps (Co (Bq fs Aj)) (Eo (Dj vs Aj)) && ps.all Aj):=by
 rw[Aj];unfold Bq Dj;simp only[List.map_attach_eq_pmap,List.pmap_eq_map,List.all_map,Function.comp_def,id_eq]
theorem ε {vs:Bt}{fv:Ty->Bool}{i:Nat}(h:i<vs.length):okV (Dj vs fv) i=(B6 vs[i].1 && decide (vs[i].2.length<=1) && vs[i].2.all fv && !((vs.take i).any fun x=>decide (x.1=vs[i].1))):=by
 unfold okV Dj;rw[List.getElem?_map,List.getElem?_eq_getElem h];simp only[Option.map_some,List.length_map,List.all_map,<-List.map_take,List.any_map,Function.comp_def,id_eq]
theorem Mz {fs:Bx}{fv:Ty->Bool}(h:0<fs.length):R7 (Bq fs fv) 0=(B6 fs[0].1 && decide (0<=fs[0].2.1) && decide (fs[0].2.1<=3) && fv fs[0].2.2):=by
 unfold R7 Bq;rw[List.getElem?_map,List.getElem?_eq_getElem h];simp
theorem My {fs:Bx}{fv:Ty->Bool}{i:Nat}(h:i+1<fs.length):R7 (Bq fs fv) (i+1)=(B6 fs[i+1].1 && decide (0<=fs[i+1].2.1) && decide (fs[i+1].2.1<=3) && fv fs[i+1].2.2 && Go.Op.bytesLess (fs[i]'(by omega)).1.toList fs[i+1].1.toList):=by
 unfold R7 Bq;rw[List.getElem?_map,List.getElem?_eq_getElem h];have e:(fs.map fun f=>(f.1,f.2.1,fv f.2.2))[i]?=some ((fs[i]'(by omega)).1,(fs[i]'(by omega)).2.1,fv (fs[i]'(by omega)).2.2):=by rw[List.getElem?_map,List.getElem?_eq_getElem (by omega:i<fs.length)];rfl
 simp[e]
theorem Fy (vs:Bt) (fv:Ty->Bool):(Dj vs fv).length=vs.length:=by simp[Dj]
theorem En (fs:Bx) (fv:Ty->Bool):(Bq fs fv).length=fs.length:=by simp[Bq]
theorem F9 {n i:Nat}{p:Nat->Bool}(hi:i<n) (h:p i=false):(List.range n).all p=false:=
 Bool.eq_false_iff.2 fun h2=>by have:=Et.1 h2 i hi;rw[h]at this;cases this
