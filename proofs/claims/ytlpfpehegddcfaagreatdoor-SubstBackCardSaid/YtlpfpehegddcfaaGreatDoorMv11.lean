import Derived.Test.YtlpfpehegddcfaaGreatDoorMv9
namespace Go.Proofs.YtlpfpehegddcfaaGreatDoor
set_option maxRecDepth 100000
set_option maxHeartbeats 64000000
open Go.RowKit
theorem Sl (l l':Bp) (h:∀ f∈l,O2 f.2.2) {K K':Nat->Prop} {w:World} {A A':Option Addr} {c c':Nat} (h1:ListF K w l A c) (h2:ListF K' w l' A' c') :
  Calls Tryz.prog 46 #[.slice A l.length c,.slice A' l'.length c'] w fun e w'=>e=.returned (.int .i64 (Bv (E4 (fun f:ByteArray×Int×Ty=>[Tok.s f.1,.i f.2.1]++flat f.2.2) l) (E4 (fun f:ByteArray×Int×Ty=>[Tok.s f.1,.i f.2.1]++flat f.2.2) l')))/\Gw w w':=by
 have H1:=Hd h1;have H2:=Hd h2;have HI:=Hd h;have hl1:l.length<=1000000000000000:=by obtain⟨_,_,hr,_⟩:=h1;exact hr.big
 have hl2:l'.length<=1000000000000000:=by obtain⟨_,_,hr,_⟩:=h2;exact hr.big
 clear h h1 h2;by_cases heq:l.length=l'.length
 ·rw[G0 (fun f:ByteArray×Int×Ty=>[Tok.s f.1,.i f.2.1]++flat f.2.2) heq];generalize hres:Ct (fun f:ByteArray×Int×Ty=>[Tok.s f.1,.i f.2.1]++flat f.2.2) l l' 0=res;have HRES:=Hd hres;have HEQ:=Hd heq;rw[<-heq];have hirr:¬ l.length<l.length:=Nat.lt_irrefl _;clear hres heq hl2;go_enter Tryz.func46,Tryz.ntmps46;go_wp2_with fail;refine (Cn _ _ _).mono ?_;rintro e w1 ⟨rfl,rfl⟩;simp only[M7];go_wp2_with fail
  go_loopw [5,6] (fun vc vi wr=>∃ (cc:Int) (i:Nat),i<=l.length/\vc=.int .i64 cc/\vi=.int .i64 i/\Fe cc (Ct (fun f:ByteArray×Int×Ty=>[Tok.s f.1,.i f.2.1]++flat f.2.2) l l' i)=res/\Gw w1 wr) (fun _ vi _=>l.length - (intOf vi).toNat)
  case atStart=>exact⟨0,0,by omega,by first | rfl | simp,rfl,by rw[Bj];exact HRES.out,Gw.refl _⟩
  case round=>
   obtain⟨cc,i,hi,rfl,rfl,ho,hb⟩:=hrel;have HO:=Hd ho;have HB:=Hd hb;clear ho;by_cases hcc:cc=0
   ·subst hcc;by_cases hin:i<l.length
    ·have t1:decide ((i:Int)<(l.length:Int))=true:=(by simp;omega);have wr2:wrap64 ((i:Int)+1)=((i+1:Nat):Int):=Ao (by omega);have HM:=Hd (Ba hin);have hin':i<l'.length:=(by rw[<-HEQ.out];exact hin);have hstep:=F7 (fun f:ByteArray×Int×Ty=>[Tok.s f.1,.i f.2.1]++flat f.2.2) O4 HEQ.out hin hin';have hval:Fe (Bv ((fun f:ByteArray×Int×Ty=>[Tok.s f.1,.i f.2.1]++flat f.2.2) l[i]) ((fun f:ByteArray×Int×Ty=>[Tok.s f.1,.i f.2.1]++flat f.2.2) l'[i])) (Ct (fun f:ByteArray×Int×Ty=>[Tok.s f.1,.i f.2.1]++flat f.2.2) l l' (i+1))=res:=(by rw[<-hstep,<-Bj (Ct (fun f:ByteArray×Int×Ty=>[Tok.s f.1,.i f.2.1]++flat f.2.2) l l' i)];exact HO.out);obtain⟨b,o,hA,_,hat⟩:=H1.out.at (by omega);obtain⟨b',o',hA',_,hat'⟩:=H2.out.at (by omega);subst hA hA';have i0:(0:Int)<=(i:Int):=(by omega);have i1:(i:Int)<(l.length:Int):=(by omega);clear hstep;have HLE:Hid (i+1<=l.length):=Hd hin;obtain⟨hn,hf,-,hT⟩:=hat i hin;obtain⟨hn',hf',-,hT'⟩:=hat' i hin';obtain⟨p0,p1,p2,p3,p4,p5,p6,p7,p8,p9,pa,pb,hp,hrp⟩:=(hT.later hb.below).six2;obtain⟨q0,q1,q2,q3,q4,q5,q6,q7,q8,q9,qa,qb,hq,hrq⟩:=(hT'.later hb.below).six2
     replace hn:=Aa (w:=w1) (w':=wr) hb.below hn
     replace hn':=Aa (w:=w1) (w':=wr) hb.below hn'
     replace hf:=Aa (w:=w1) (w':=wr) hb.below hf
     replace hf':=Aa (w:=w1) (w':=wr) hb.below hf'
     have KO:Hid (∀ wx,Below wr.heap.size wr wx->Calls Tryz.prog 20 #[.agg #[.int .i64 p0,.string p1,.int .i64 p2,.slice p3 p4 p5,.slice p6 p7 p8,.slice p9 pa pb],.agg #[.int .i64 q0,.string q1,.int .i64 q2,.slice q3 q4 q5,.slice q6 q7 q8,.slice q9 qa qb]] wx fun e w'=>e=.returned (.int .i64 (Bt (l[i]'hin).2.2 (l'[i]'hin').2.2))/\Gw wx w'):=Hd fun wx hx=>HI.out _ (List.getElem_mem hin) K K' (l'[i]'hin').2.2 wx _ _ (hrp.later hx) (hrq.later hx);have hval2:Fe (Fe (Dj (l[i]'hin).1 (l'[i]'hin').1) (Fe (De (l[i]'hin).2.1 (l'[i]'hin').2.1) (Bt (l[i]'hin).2.2 (l'[i]'hin').2.2))) (Ct (fun f:ByteArray×Int×Ty=>[Tok.s f.1,.i f.2.1]++flat f.2.2) l l' (i+1))=res:=(by rw[<-Kp];exact hval);generalize Bt (l[i]'hin).2.2 (l'[i]'hin').2.2=oo at KO hval2;generalize hnm:(l[i]'hin).1=nm at hn hval2;generalize hnm':(l'[i]'hin').1=nm' at hn' hval2;generalize hfl:(l[i]'hin).2.1=fl at hf hval2;generalize hfl':(l'[i]'hin').2.1=fl' at hf' hval2;have HC:Hid (∀ wx,Below wr.heap.size wr wx->(wx.cell? ⟨b,o+i*8,none⟩=some (.string nm)/\wx.cell? ⟨b',o'+i*8,none⟩=some (.string nm'))/\(wx.cell? ⟨b,o+i*8+1,none⟩=some (.int .i64 fl)/\wx.cell? ⟨b',o'+i*8+1,none⟩=some (.int .i64 fl'))/\(wx.cell? ⟨b,o+i*8+2,none⟩=some (.int .i64 p0)/\wx.cell? ⟨b,o+i*8+2+1,none⟩=some (.string p1)/\wx.cell? ⟨b,o+i*8+2+2,none⟩=some (.int .i64 p2)/\wx.cell? ⟨b,o+i*8+2+3,none⟩=some (.slice p3 p4 p5)/\wx.cell? ⟨b,o+i*8+2+4,none⟩=some (.slice p6 p7 p8)/\wx.cell? ⟨b,o+i*8+2+5,none⟩=some (.slice p9 pa pb))/\wx.cell? ⟨b',o'+i*8+2,none⟩=some (.int .i64 q0)/\wx.cell? ⟨b',o'+i*8+2+1,none⟩=some (.string q1)/\wx.cell? ⟨b',o'+i*8+2+2,none⟩=some (.int .i64 q2)/\wx.cell? ⟨b',o'+i*8+2+3,none⟩=some (.slice q3 q4 q5)/\wx.cell? ⟨b',o'+i*8+2+4,none⟩=some (.slice q6 q7 q8)/\wx.cell? ⟨b',o'+i*8+2+5,none⟩=some (.slice q9 qa qb)):=Hd fun wx hx=>⟨⟨Aa hx hn,Aa hx hn'⟩,⟨Aa hx hf,Aa hx hf'⟩,⟨Aa hx hp.1,Aa hx hp.2.1,Aa hx hp.2.2.1,Aa hx hp.2.2.2.1,Aa hx hp.2.2.2.2.1,Aa hx hp.2.2.2.2.2⟩,⟨Aa hx hq.1,Aa hx hq.2.1,Aa hx hq.2.2.1,Aa hx hq.2.2.2.1,Aa hx hq.2.2.2.2.1,Aa hx hq.2.2.2.2.2⟩⟩;have HV:=Hd hval2;clear hat hat' hp hq hrp hrq hval hval2 hi hb hn hn' hf hf' hnm hnm' hfl hfl' hT hT';rcases G7 nm nm' with ⟨ga,gb,ge⟩ | ⟨ga,gb,ge⟩ | ⟨ga,gb,ge⟩
     ·have HV2:Hid (Fe (-1) (Ct (fun f:ByteArray×Int×Ty=>[Tok.s f.1,.i f.2.1]++flat f.2.2) l l' (i+1))=res):=Hd (by have h:=HV.out;rw[ge,Dg (a:=-1) (by decide)] at h;exact h);clear ge;go_wp2_with fail;refine wp_region_held_drew (S:=(fun w'=>(w'.cell? ⟨b,o+i*8,none⟩=some (.string nm)/\w'.cell? ⟨b',o'+i*8,none⟩=some (.string nm'))/\(w'.cell? ⟨b,o+i*8+1,none⟩=some (.int .i64 fl)/\w'.cell? ⟨b',o'+i*8+1,none⟩=some (.int .i64 fl'))/\(w'.cell? ⟨b,o+i*8+2,none⟩=some (.int .i64 p0)/\w'.cell? ⟨b,o+i*8+2+1,none⟩=some (.string p1)/\w'.cell? ⟨b,o+i*8+2+2,none⟩=some (.int .i64 p2)/\w'.cell? ⟨b,o+i*8+2+3,none⟩=some (.slice p3 p4 p5)/\w'.cell? ⟨b,o+i*8+2+4,none⟩=some (.slice p6 p7 p8)/\w'.cell? ⟨b,o+i*8+2+5,none⟩=some (.slice p9 pa pb))/\w'.cell? ⟨b',o'+i*8+2,none⟩=some (.int .i64 q0)/\w'.cell? ⟨b',o'+i*8+2+1,none⟩=some (.string q1)/\w'.cell? ⟨b',o'+i*8+2+2,none⟩=some (.int .i64 q2)/\w'.cell? ⟨b',o'+i*8+2+3,none⟩=some (.slice q3 q4 q5)/\w'.cell? ⟨b',o'+i*8+2+4,none⟩=some (.slice q6 q7 q8)/\w'.cell? ⟨b',o'+i*8+2+5,none⟩=some (.slice q9 qa qb))) (by kernel_rfl) (HC.out _ (Below.refl wr.heap.size wr).drew) (fun hHeld=>?_);refine Plan.start [0,1,2,3,4,5,6,7,8,9,10,11,12,13,14,15,16,17,18,19,20,21] ?_
      iterate 22 (refine Plan.tk (so rfl) hHeld ?_;try simp only[Act.put,Ax,Ay,Az])
      refine Plan.done ?_;refine wpAnyH_ready (rs:=[22]) (by kernel_rfl) (by simp) ?_;refine AllReadyH.cons (sd (some 50) rfl) (fun K hK=>?_) AllReadyH.nil;go_simp;refine (Cn _ _ _).mono ?_;rintro e w2 ⟨rfl,rfl⟩;simp only[M7];go_wp2_with fail;refine hK.out _ _ (HC.out _ (Below.refl wr.heap.size wr).drew) (fun hHeld=>?_);clear hK K;try simp only[Act.put,Ax,Ay,Az]
      refine Plan.start [23] ?_;refine Plan.tk (so rfl) hHeld ?_;try simp only[Act.put,Ax,Ay,Az]
      refine Plan.done ?_;refine wpAnyH_done (by kernel_rfl) ?_ _;clear hHeld;clear i0 i1 t1 ga gb;go_wp2_with fail;refine⟨⟨(-1),i+1,HLE.out,by first | rfl | trivial,by first | rfl | rw[wr2],HV2.out,HB.out.drew⟩,?_⟩;first | exact HM.out | (rw[wr2];exact HM.out)
     ·have HV2:Hid (Fe 1 (Ct (fun f:ByteArray×Int×Ty=>[Tok.s f.1,.i f.2.1]++flat f.2.2) l l' (i+1))=res):=Hd (by have h:=HV.out;rw[ge,Dg (a:=1) (by decide)] at h;exact h);clear ge;go_wp2_with fail;refine wp_region_held_drew (S:=(fun w'=>(w'.cell? ⟨b,o+i*8,none⟩=some (.string nm)/\w'.cell? ⟨b',o'+i*8,none⟩=some (.string nm'))/\(w'.cell? ⟨b,o+i*8+1,none⟩=some (.int .i64 fl)/\w'.cell? ⟨b',o'+i*8+1,none⟩=some (.int .i64 fl'))/\(w'.cell? ⟨b,o+i*8+2,none⟩=some (.int .i64 p0)/\w'.cell? ⟨b,o+i*8+2+1,none⟩=some (.string p1)/\w'.cell? ⟨b,o+i*8+2+2,none⟩=some (.int .i64 p2)/\w'.cell? ⟨b,o+i*8+2+3,none⟩=some (.slice p3 p4 p5)/\w'.cell? ⟨b,o+i*8+2+4,none⟩=some (.slice p6 p7 p8)/\w'.cell? ⟨b,o+i*8+2+5,none⟩=some (.slice p9 pa pb))/\w'.cell? ⟨b',o'+i*8+2,none⟩=some (.int .i64 q0)/\w'.cell? ⟨b',o'+i*8+2+1,none⟩=some (.string q1)/\w'.cell? ⟨b',o'+i*8+2+2,none⟩=some (.int .i64 q2)/\w'.cell? ⟨b',o'+i*8+2+3,none⟩=some (.slice q3 q4 q5)/\w'.cell? ⟨b',o'+i*8+2+4,none⟩=some (.slice q6 q7 q8)/\w'.cell? ⟨b',o'+i*8+2+5,none⟩=some (.slice q9 qa qb))) (by kernel_rfl) (HC.out _ (Below.refl wr.heap.size wr).drew) (fun hHeld=>?_);refine Plan.start [0,1,2,3,4,5,6,7,8,9,10,11,12,13,14,15,16,17,18,19,20,21] ?_
      iterate 22 (refine Plan.tk (so rfl) hHeld ?_;try simp only[Act.put,Ax,Ay,Az])
      refine Plan.done ?_;refine wpAnyH_ready (rs:=[22]) (by kernel_rfl) (by simp) ?_;refine AllReadyH.cons (sd (some 50) rfl) (fun K hK=>?_) AllReadyH.nil;go_simp;refine (Cn _ _ _).mono ?_;rintro e w2 ⟨rfl,rfl⟩;simp only[M7];go_wp2_with fail;refine hK.out _ _ (HC.out _ (Below.refl wr.heap.size wr).drew) (fun hHeld=>?_);clear hK K;try simp only[Act.put,Ax,Ay,Az]
      refine Plan.start [23] ?_;refine Plan.tk (so rfl) hHeld ?_;try simp only[Act.put,Ax,Ay,Az]
      refine Plan.done ?_;refine wpAnyH_done (by kernel_rfl) ?_ _;clear hHeld;clear i0 i1 t1 ga gb;go_wp2_with fail;refine⟨⟨1,i+1,HLE.out,by first | rfl | trivial,by first | rfl | rw[wr2],HV2.out,HB.out.drew⟩,?_⟩;first | exact HM.out | (rw[wr2];exact HM.out)
     ·have HV1:Hid (Fe (Fe (De fl fl') oo) (Ct (fun f:ByteArray×Int×Ty=>[Tok.s f.1,.i f.2.1]++flat f.2.2) l l' (i+1))=res):=Hd (by have h:=HV.out;rw[ge,Bj] at h;exact h);clear ge;go_wp2_with fail;refine wp_region_held_drew (S:=(fun w'=>(w'.cell? ⟨b,o+i*8,none⟩=some (.string nm)/\w'.cell? ⟨b',o'+i*8,none⟩=some (.string nm'))/\(w'.cell? ⟨b,o+i*8+1,none⟩=some (.int .i64 fl)/\w'.cell? ⟨b',o'+i*8+1,none⟩=some (.int .i64 fl'))/\(w'.cell? ⟨b,o+i*8+2,none⟩=some (.int .i64 p0)/\w'.cell? ⟨b,o+i*8+2+1,none⟩=some (.string p1)/\w'.cell? ⟨b,o+i*8+2+2,none⟩=some (.int .i64 p2)/\w'.cell? ⟨b,o+i*8+2+3,none⟩=some (.slice p3 p4 p5)/\w'.cell? ⟨b,o+i*8+2+4,none⟩=some (.slice p6 p7 p8)/\w'.cell? ⟨b,o+i*8+2+5,none⟩=some (.slice p9 pa pb))/\w'.cell? ⟨b',o'+i*8+2,none⟩=some (.int .i64 q0)/\w'.cell? ⟨b',o'+i*8+2+1,none⟩=some (.string q1)/\w'.cell? ⟨b',o'+i*8+2+2,none⟩=some (.int .i64 q2)/\w'.cell? ⟨b',o'+i*8+2+3,none⟩=some (.slice q3 q4 q5)/\w'.cell? ⟨b',o'+i*8+2+4,none⟩=some (.slice q6 q7 q8)/\w'.cell? ⟨b',o'+i*8+2+5,none⟩=some (.slice q9 qa qb))) (by kernel_rfl) (HC.out _ (Below.refl wr.heap.size wr).drew) (fun hHeld=>?_);refine Plan.start [0,1,2,3,4,5,6,7,8,9,10,11,12,13,14,15,16,17,18,19,20,21] ?_
      iterate 22 (refine Plan.tk (so rfl) hHeld ?_;try simp only[Act.put,Ax,Ay,Az])
      refine Plan.done ?_;refine wpAnyH_ready (rs:=[22]) (by kernel_rfl) (by simp) ?_;refine AllReadyH.cons (sd (some 50) rfl) (fun K hK=>?_) AllReadyH.nil;go_simp;refine (Cn _ _ _).mono ?_;rintro e w2 ⟨rfl,rfl⟩;simp only[M7];go_wp2_with fail;refine hK.out _ _ (HC.out _ (Below.refl wr.heap.size wr).drew) (fun hHeld=>?_);clear hK K;try simp only[Act.put,Ax,Ay,Az]
      refine Plan.start [23] ?_;refine Plan.tk (so rfl) hHeld ?_;try simp only[Act.put,Ax,Ay,Az]
      refine Plan.done ?_;refine wpAnyH_done (by kernel_rfl) ?_ _;clear hHeld;clear ga gb;go_wp2_with fail;rcases F9 fl fl' with ⟨ga,gb,ge⟩ | ⟨ga,gb,ge⟩ | ⟨ga,gb,ge⟩
      ·have HV2:Hid (Fe (-1) (Ct (fun f:ByteArray×Int×Ty=>[Tok.s f.1,.i f.2.1]++flat f.2.2) l l' (i+1))=res):=Hd (by have h:=HV1.out;rw[ge,Dg (a:=-1) (by decide)] at h;exact h);have g1:decide (fl<fl')=true:=(by simpa using ga);have g2:decide (fl'<fl)=false:=(by simpa using gb);clear ge;go_wp2_with fail;refine wp_region_held_drew (S:=(fun w'=>(w'.cell? ⟨b,o+i*8,none⟩=some (.string nm)/\w'.cell? ⟨b',o'+i*8,none⟩=some (.string nm'))/\(w'.cell? ⟨b,o+i*8+1,none⟩=some (.int .i64 fl)/\w'.cell? ⟨b',o'+i*8+1,none⟩=some (.int .i64 fl'))/\(w'.cell? ⟨b,o+i*8+2,none⟩=some (.int .i64 p0)/\w'.cell? ⟨b,o+i*8+2+1,none⟩=some (.string p1)/\w'.cell? ⟨b,o+i*8+2+2,none⟩=some (.int .i64 p2)/\w'.cell? ⟨b,o+i*8+2+3,none⟩=some (.slice p3 p4 p5)/\w'.cell? ⟨b,o+i*8+2+4,none⟩=some (.slice p6 p7 p8)/\w'.cell? ⟨b,o+i*8+2+5,none⟩=some (.slice p9 pa pb))/\w'.cell? ⟨b',o'+i*8+2,none⟩=some (.int .i64 q0)/\w'.cell? ⟨b',o'+i*8+2+1,none⟩=some (.string q1)/\w'.cell? ⟨b',o'+i*8+2+2,none⟩=some (.int .i64 q2)/\w'.cell? ⟨b',o'+i*8+2+3,none⟩=some (.slice q3 q4 q5)/\w'.cell? ⟨b',o'+i*8+2+4,none⟩=some (.slice q6 q7 q8)/\w'.cell? ⟨b',o'+i*8+2+5,none⟩=some (.slice q9 qa qb))) (by kernel_rfl) (HC.out _ (Below.refl wr.heap.size wr).drew.drew) (fun hHeld=>?_);refine Plan.start [0,1,2,3,4,5,6,7,8,9,10,11,12,13,14,15,16,17,18,19,20,21] ?_
       iterate 22 (refine Plan.tk (so rfl) hHeld ?_;try simp only[Act.put,Ax,Ay,Az])
       refine Plan.done ?_;refine wpAnyH_ready (rs:=[22]) (by kernel_rfl) (by simp) ?_;refine AllReadyH.cons (sd (some 75) rfl) (fun K hK=>?_) AllReadyH.nil;go_simp;refine (Cn _ _ _).mono ?_;rintro e w2 ⟨rfl,rfl⟩;simp only[M7];go_wp2_with fail;refine hK.out _ _ (HC.out _ (Below.refl wr.heap.size wr).drew.drew) (fun hHeld=>?_);clear hK K;try simp only[Act.put,Ax,Ay,Az]
       refine Plan.start [23] ?_;refine Plan.tk (so rfl) hHeld ?_;try simp only[Act.put,Ax,Ay,Az]
       refine Plan.done ?_;refine wpAnyH_done (by kernel_rfl) ?_ _;clear hHeld;clear i0 i1 t1;go_wp2_with fail;refine⟨⟨(-1),i+1,HLE.out,by first | rfl | trivial,by first | rfl | rw[wr2],HV2.out,HB.out.drew.drew⟩,?_⟩;first | exact HM.out | (rw[wr2];exact HM.out)
      ·have HV2:Hid (Fe 1 (Ct (fun f:ByteArray×Int×Ty=>[Tok.s f.1,.i f.2.1]++flat f.2.2) l l' (i+1))=res):=Hd (by have h:=HV1.out;rw[ge,Dg (a:=1) (by decide)] at h;exact h);have g1:decide (fl<fl')=false:=(by simpa using ga);have g2:decide (fl'<fl)=true:=(by simpa using gb);clear ge;go_wp2_with fail;refine wp_region_held_drew (S:=(fun w'=>(w'.cell? ⟨b,o+i*8,none⟩=some (.string nm)/\w'.cell? ⟨b',o'+i*8,none⟩=some (.string nm'))/\(w'.cell? ⟨b,o+i*8+1,none⟩=some (.int .i64 fl)/\w'.cell? ⟨b',o'+i*8+1,none⟩=some (.int .i64 fl'))/\(w'.cell? ⟨b,o+i*8+2,none⟩=some (.int .i64 p0)/\w'.cell? ⟨b,o+i*8+2+1,none⟩=some (.string p1)/\w'.cell? ⟨b,o+i*8+2+2,none⟩=some (.int .i64 p2)/\w'.cell? ⟨b,o+i*8+2+3,none⟩=some (.slice p3 p4 p5)/\w'.cell? ⟨b,o+i*8+2+4,none⟩=some (.slice p6 p7 p8)/\w'.cell? ⟨b,o+i*8+2+5,none⟩=some (.slice p9 pa pb))/\w'.cell? ⟨b',o'+i*8+2,none⟩=some (.int .i64 q0)/\w'.cell? ⟨b',o'+i*8+2+1,none⟩=some (.string q1)/\w'.cell? ⟨b',o'+i*8+2+2,none⟩=some (.int .i64 q2)/\w'.cell? ⟨b',o'+i*8+2+3,none⟩=some (.slice q3 q4 q5)/\w'.cell? ⟨b',o'+i*8+2+4,none⟩=some (.slice q6 q7 q8)/\w'.cell? ⟨b',o'+i*8+2+5,none⟩=some (.slice q9 qa qb))) (by kernel_rfl) (HC.out _ (Below.refl wr.heap.size wr).drew.drew) (fun hHeld=>?_);refine Plan.start [0,1,2,3,4,5,6,7,8,9,10,11,12,13,14,15,16,17,18,19,20,21] ?_
       iterate 22 (refine Plan.tk (so rfl) hHeld ?_;try simp only[Act.put,Ax,Ay,Az])
       refine Plan.done ?_;refine wpAnyH_ready (rs:=[22]) (by kernel_rfl) (by simp) ?_;refine AllReadyH.cons (sd (some 75) rfl) (fun K hK=>?_) AllReadyH.nil;go_simp;refine (Cn _ _ _).mono ?_;rintro e w2 ⟨rfl,rfl⟩;simp only[M7];go_wp2_with fail;refine hK.out _ _ (HC.out _ (Below.refl wr.heap.size wr).drew.drew) (fun hHeld=>?_);clear hK K;try simp only[Act.put,Ax,Ay,Az]
       refine Plan.start [23] ?_;refine Plan.tk (so rfl) hHeld ?_;try simp only[Act.put,Ax,Ay,Az]
       refine Plan.done ?_;refine wpAnyH_done (by kernel_rfl) ?_ _;clear hHeld;clear i0 i1 t1;go_wp2_with fail;refine⟨⟨1,i+1,HLE.out,by first | rfl | trivial,by first | rfl | rw[wr2],HV2.out,HB.out.drew.drew⟩,?_⟩;first | exact HM.out | (rw[wr2];exact HM.out)
      ·have HV2:Hid (Fe oo (Ct (fun f:ByteArray×Int×Ty=>[Tok.s f.1,.i f.2.1]++flat f.2.2) l l' (i+1))=res):=Hd (by have h:=HV1.out;rw[ge,Bj] at h;exact h);have g1:decide (fl<fl')=false:=(by simpa using ga);have g2:decide (fl'<fl)=false:=(by simpa using gb);clear ge;go_wp2_with fail;refine wp_region_held_drew (S:=(fun w'=>(w'.cell? ⟨b,o+i*8,none⟩=some (.string nm)/\w'.cell? ⟨b',o'+i*8,none⟩=some (.string nm'))/\(w'.cell? ⟨b,o+i*8+1,none⟩=some (.int .i64 fl)/\w'.cell? ⟨b',o'+i*8+1,none⟩=some (.int .i64 fl'))/\(w'.cell? ⟨b,o+i*8+2,none⟩=some (.int .i64 p0)/\w'.cell? ⟨b,o+i*8+2+1,none⟩=some (.string p1)/\w'.cell? ⟨b,o+i*8+2+2,none⟩=some (.int .i64 p2)/\w'.cell? ⟨b,o+i*8+2+3,none⟩=some (.slice p3 p4 p5)/\w'.cell? ⟨b,o+i*8+2+4,none⟩=some (.slice p6 p7 p8)/\w'.cell? ⟨b,o+i*8+2+5,none⟩=some (.slice p9 pa pb))/\w'.cell? ⟨b',o'+i*8+2,none⟩=some (.int .i64 q0)/\w'.cell? ⟨b',o'+i*8+2+1,none⟩=some (.string q1)/\w'.cell? ⟨b',o'+i*8+2+2,none⟩=some (.int .i64 q2)/\w'.cell? ⟨b',o'+i*8+2+3,none⟩=some (.slice q3 q4 q5)/\w'.cell? ⟨b',o'+i*8+2+4,none⟩=some (.slice q6 q7 q8)/\w'.cell? ⟨b',o'+i*8+2+5,none⟩=some (.slice q9 qa qb))) (by kernel_rfl) (HC.out _ (Below.refl wr.heap.size wr).drew.drew) (fun hHeld=>?_);refine Plan.start [0,1,2,3,4,5,6,7,8,9,10,11,12,13,14,15,16,17,18,19,20,21] ?_
       iterate 22 (refine Plan.tk (so rfl) hHeld ?_;try simp only[Act.put,Ax,Ay,Az])
       refine Plan.done ?_;refine wpAnyH_ready (rs:=[22]) (by kernel_rfl) (by simp) ?_;refine AllReadyH.cons (sd (some 75) rfl) (fun K hK=>?_) AllReadyH.nil;go_simp;refine (Cn _ _ _).mono ?_;rintro e w2 ⟨rfl,rfl⟩;simp only[M7];go_wp2_with fail;refine hK.out _ _ (HC.out _ (Below.refl wr.heap.size wr).drew.drew) (fun hHeld=>?_);clear hK K;try simp only[Act.put,Ax,Ay,Az]
       refine Plan.start [23] ?_;refine Plan.tk (so rfl) hHeld ?_;try simp only[Act.put,Ax,Ay,Az]
       refine Plan.done ?_;refine wpAnyH_done (by kernel_rfl) ?_ _;clear hHeld;clear ga gb;go_wp2_with fail;refine wp_region_held_drew (S:=(fun w'=>(w'.cell? ⟨b,o+i*8,none⟩=some (.string nm)/\w'.cell? ⟨b',o'+i*8,none⟩=some (.string nm'))/\(w'.cell? ⟨b,o+i*8+1,none⟩=some (.int .i64 fl)/\w'.cell? ⟨b',o'+i*8+1,none⟩=some (.int .i64 fl'))/\(w'.cell? ⟨b,o+i*8+2,none⟩=some (.int .i64 p0)/\w'.cell? ⟨b,o+i*8+2+1,none⟩=some (.string p1)/\w'.cell? ⟨b,o+i*8+2+2,none⟩=some (.int .i64 p2)/\w'.cell? ⟨b,o+i*8+2+3,none⟩=some (.slice p3 p4 p5)/\w'.cell? ⟨b,o+i*8+2+4,none⟩=some (.slice p6 p7 p8)/\w'.cell? ⟨b,o+i*8+2+5,none⟩=some (.slice p9 pa pb))/\w'.cell? ⟨b',o'+i*8+2,none⟩=some (.int .i64 q0)/\w'.cell? ⟨b',o'+i*8+2+1,none⟩=some (.string q1)/\w'.cell? ⟨b',o'+i*8+2+2,none⟩=some (.int .i64 q2)/\w'.cell? ⟨b',o'+i*8+2+3,none⟩=some (.slice q3 q4 q5)/\w'.cell? ⟨b',o'+i*8+2+4,none⟩=some (.slice q6 q7 q8)/\w'.cell? ⟨b',o'+i*8+2+5,none⟩=some (.slice q9 qa qb))) (by kernel_rfl) (HC.out _ (Below.refl wr.heap.size wr).drew.drew.drew) (fun hHeld=>?_);refine Plan.start [0,1,2,3,4,5,6,7,8,9] ?_
       iterate 10 (refine Plan.tk (so rfl) hHeld ?_;try simp only[Act.put,Ax,Ay,Az])
       refine Plan.done ?_;refine wpAnyH_ready (rs:=[10]) (by kernel_rfl) (by simp) ?_;refine AllReadyH.cons (sd (some 88) rfl) (fun K hK=>?_) AllReadyH.nil;go_simp;refine (KO.out _ (Below.refl wr.heap.size wr).drew.drew.drew).mono ?_;rintro e w2 ⟨rfl,hb2⟩;have HB2:=Hd ((Below.refl wr.heap.size wr).drew.drew.drew.trans hb2.below);have HG2:=Hd ((HB.out.drew.drew.drew).trans hb2);clear hb2;go_wp2_with fail;refine hK.out _ _ (HC.out _ HB2.out) (fun hHeld=>?_);clear hK K;try simp only[Act.put,Ax,Ay,Az]
       refine Plan.start [11] ?_;refine Plan.tk (so rfl) hHeld ?_;try simp only[Act.put,Ax,Ay,Az]
       refine Plan.done ?_;refine wpAnyH_done (by kernel_rfl) ?_ _;clear hHeld;clear i0 i1 t1;go_wp2_with fail;refine⟨⟨oo,i+1,HLE.out,by first | rfl | trivial,by first | rfl | rw[wr2],HV2.out,HG2.out⟩,?_⟩;first | exact HM.out | (rw[wr2];exact HM.out)
    ·have t1:decide ((i:Int)<(l.length:Int))=false:=(by simp;omega);have HR:Hid (res=0):=Hd (by
      have h:=HO.out;rw[show i=l.length from by omega,Gz (fun f:ByteArray×Int×Ty=>[Tok.s f.1,.i f.2.1]++flat f.2.2) HEQ.out,Bj] at h;exact h.symm)
     clear hi hb;go_wp2_with fail;go_ret
     exact⟨by rw[HR.out];rfl,HB.out⟩
   ·have hc0:(cc == 0)=false:=(by simpa using hcc);have HR:Hid (res=cc):=Hd (by rw[<-HO.out,Dg hcc]);clear hi hb hcc;go_wp2_with fail;go_ret
    exact⟨by rw[HR.out];rfl,HB.out⟩
 ·rw[Ij (fun f:ByteArray×Int×Ty=>[Tok.s f.1,.i f.2.1]++flat f.2.2) heq];rcases F9 (l.length:Int) (l'.length:Int) with ⟨ha,hb,he⟩ | ⟨ha,hb,he⟩ | ⟨ha,hb,he⟩
  ·have HE:=Hd he;have n1:l.length<l'.length:=by omega
   have n2:¬ l'.length<l.length:=by omega
   clear he heq ha hb;go_enter Tryz.func46,Tryz.ntmps46;go_wp2_with fail;refine (Cn _ _ _).mono ?_;rintro e w1 ⟨rfl,rfl⟩;simp only[M7];go_wp2_with fail
   go_loopw [5,6] (fun vc _ wr=>vc=.int .i64 (-1)/\wr=w1) (fun _ _ _=>0)
   case atStart=>exact⟨by first | rfl | simp,rfl⟩
   case round=>
    obtain⟨rfl,rfl⟩:=hrel;go_wp2_with fail;go_ret
    exact⟨by rw[HE.out];rfl,Gw.refl _⟩
  ·have HE:=Hd he;have n1:¬ l.length<l'.length:=by omega
   have n2:l'.length<l.length:=by omega
   clear he heq ha hb;go_enter Tryz.func46,Tryz.ntmps46;go_wp2_with fail;refine (Cn _ _ _).mono ?_;rintro e w1 ⟨rfl,rfl⟩;simp only[M7];go_wp2_with fail
   go_loopw [5,6] (fun vc _ wr=>vc=.int .i64 (1)/\wr=w1) (fun _ _ _=>0)
   case atStart=>exact⟨by first | rfl | simp,rfl⟩
   case round=>
    obtain⟨rfl,rfl⟩:=hrel;go_wp2_with fail;go_ret
    exact⟨by rw[HE.out];rfl,Gw.refl _⟩
  ·exact absurd heq (by omega)
theorem Jbp (l l':Bm) (h:∀ v∈l,∀ b∈v.2,O2 b) {K K':Nat->Prop} {w:World} {A A':Option Addr} {c c':Nat} (h1:ListV K w l A c) (h2:ListV K' w l' A' c') :
  Calls Tryz.prog 47 #[.slice A l.length c,.slice A' l'.length c'] w fun e w'=>e=.returned (.int .i64 (Bv (E4 (fun v:ByteArray×List Ty=>Tok.s v.1 :: Bq v.2) l) (E4 (fun v:ByteArray×List Ty=>Tok.s v.1 :: Bq v.2) l')))/\Gw w w':=by
 have H1:=Hd h1;have H2:=Hd h2;have HI:=Hd h;have hl1:l.length<=1000000000000000:=by obtain⟨_,_,hr,_⟩:=h1;exact hr.big
 have hl2:l'.length<=1000000000000000:=by obtain⟨_,_,hr,_⟩:=h2;exact hr.big
 clear h h1 h2;by_cases heq:l.length=l'.length
 ·rw[G0 (fun v:ByteArray×List Ty=>Tok.s v.1 :: Bq v.2) heq];generalize hres:Ct (fun v:ByteArray×List Ty=>Tok.s v.1 :: Bq v.2) l l' 0=res;have HRES:=Hd hres;have HEQ:=Hd heq;rw[<-heq];have hirr:¬ l.length<l.length:=Nat.lt_irrefl _;clear hres heq hl2;go_enter Tryz.func47,Tryz.ntmps47;go_wp2_with fail;refine (Cn _ _ _).mono ?_;rintro e w1 ⟨rfl,rfl⟩;simp only[M7];go_wp2_with fail
  go_loopw [5,6] (fun vc vi wr=>∃ (cc:Int) (i:Nat),i<=l.length/\vc=.int .i64 cc/\vi=.int .i64 i/\Fe cc (Ct (fun v:ByteArray×List Ty=>Tok.s v.1 :: Bq v.2) l l' i)=res/\Gw w1 wr) (fun _ vi _=>l.length - (intOf vi).toNat)
  case atStart=>exact⟨0,0,by omega,by first | rfl | simp,rfl,by rw[Bj];exact HRES.out,Gw.refl _⟩
  case round=>
   obtain⟨cc,i,hi,rfl,rfl,ho,hb⟩:=hrel;have HO:=Hd ho;have HB:=Hd hb;clear ho;by_cases hcc:cc=0
   ·subst hcc;by_cases hin:i<l.length
    ·have t1:decide ((i:Int)<(l.length:Int))=true:=(by simp;omega);have wr2:wrap64 ((i:Int)+1)=((i+1:Nat):Int):=Ao (by omega);have HM:=Hd (Ba hin);have hin':i<l'.length:=(by rw[<-HEQ.out];exact hin);have hstep:=F7 (fun v:ByteArray×List Ty=>Tok.s v.1 :: Bq v.2) O6 HEQ.out hin hin';have hval:Fe (Bv ((fun v:ByteArray×List Ty=>Tok.s v.1 :: Bq v.2) l[i]) ((fun v:ByteArray×List Ty=>Tok.s v.1 :: Bq v.2) l'[i])) (Ct (fun v:ByteArray×List Ty=>Tok.s v.1 :: Bq v.2) l l' (i+1))=res:=(by rw[<-hstep,<-Bj (Ct (fun v:ByteArray×List Ty=>Tok.s v.1 :: Bq v.2) l l' i)];exact HO.out);obtain⟨b,o,hA,_,hat⟩:=H1.out.at (by omega);obtain⟨b',o',hA',_,hat'⟩:=H2.out.at (by omega);subst hA hA';have i0:(0:Int)<=(i:Int):=(by omega);have i1:(i:Int)<(l.length:Int):=(by omega);clear hstep;have HLE:Hid (i+1<=l.length):=Hd hin;obtain⟨B,d,hn,hf,-,hT⟩:=hat i hin;obtain⟨B',d',hn',hf',-,hT'⟩:=hat' i hin'
     replace hn:=Aa (w:=w1) (w':=wr) hb.below hn
     replace hn':=Aa (w:=w1) (w':=wr) hb.below hn'
     replace hf:=Aa (w:=w1) (w':=wr) hb.below hf
     replace hf':=Aa (w:=w1) (w':=wr) hb.below hf'
     replace hT:=hT.later (w':=wr) hb.below
     replace hT':=hT'.later (w':=wr) hb.below
     have hbo:=HI.out _ (List.getElem_mem hin);have hval2:Fe (Fe (Dj (l[i]'hin).1 (l'[i]'hin').1) (Bv (Bq (l[i]'hin).2) (Bq (l'[i]'hin').2))) (Ct (fun v:ByteArray×List Ty=>Tok.s v.1 :: Bq v.2) l l' (i+1))=res:=(by rw[<-O1];exact hval);generalize hnm:(l[i]'hin).1=nm at hn hval2;generalize hnm':(l'[i]'hin').1=nm' at hn' hval2;generalize hfl:(l[i]'hin).2=bl at hf hval2 hT hbo;generalize hfl':(l'[i]'hin').2=bl' at hf' hval2 hT';have KO:Hid (∀ wx,Below wr.heap.size wr wx->Calls Tryz.prog 45 #[.slice B bl.length d,.slice B' bl'.length d'] wx fun e w'=>e=.returned (.int .i64 (Bv (Bq bl) (Bq bl')))/\Gw wx w'):=Hd fun wx hx=>Rk bl bl' hbo (hT.later hx) (hT'.later hx);generalize Bv (Bq bl) (Bq bl')=oo at KO hval2;have HC:Hid (∀ wx,Below wr.heap.size wr wx->(wx.cell? ⟨b,o+i*2,none⟩=some (.string nm)/\wx.cell? ⟨b',o'+i*2,none⟩=some (.string nm'))/\wx.cell? ⟨b,o+i*2+1,none⟩=some (.slice B bl.length d)/\wx.cell? ⟨b',o'+i*2+1,none⟩=some (.slice B' bl'.length d')):=Hd fun wx hx=>⟨⟨Aa hx hn,Aa hx hn'⟩,Aa hx hf,Aa hx hf'⟩;have HV:=Hd hval2;clear hat hat' hval hval2 hi hb hn hn' hf hf' hnm hnm' hfl hfl' hT hT' hbo;rcases G7 nm nm' with ⟨ga,gb,ge⟩ | ⟨ga,gb,ge⟩ | ⟨ga,gb,ge⟩
     ·have HV2:Hid (Fe (-1) (Ct (fun v:ByteArray×List Ty=>Tok.s v.1 :: Bq v.2) l l' (i+1))=res):=Hd (by have h:=HV.out;rw[ge,Dg (a:=-1) (by decide)] at h;exact h);clear ge;go_wp2_with fail;refine wp_region_held_drew (S:=(fun w'=>(w'.cell? ⟨b,o+i*2,none⟩=some (.string nm)/\w'.cell? ⟨b',o'+i*2,none⟩=some (.string nm'))/\w'.cell? ⟨b,o+i*2+1,none⟩=some (.slice B bl.length d)/\w'.cell? ⟨b',o'+i*2+1,none⟩=some (.slice B' bl'.length d'))) (by kernel_rfl) (HC.out _ (Below.refl wr.heap.size wr).drew) (fun hHeld=>?_);refine Plan.start [0,1,2,3,4,5,6,7,8,9,10,11,12,13,14,15,16,17,18,19,20,21] ?_
      iterate 22 (refine Plan.tk (so rfl) hHeld ?_;try simp only[Act.put,Ax,Ay,Az])
      refine Plan.done ?_;refine wpAnyH_ready (rs:=[22]) (by kernel_rfl) (by simp) ?_;refine AllReadyH.cons (sd (some 50) rfl) (fun K hK=>?_) AllReadyH.nil;go_simp;refine (Cn _ _ _).mono ?_;rintro e w2 ⟨rfl,rfl⟩;simp only[M7];go_wp2_with fail;refine hK.out _ _ (HC.out _ (Below.refl wr.heap.size wr).drew) (fun hHeld=>?_);clear hK K;try simp only[Act.put,Ax,Ay,Az]
      refine Plan.start [23] ?_;refine Plan.tk (so rfl) hHeld ?_;try simp only[Act.put,Ax,Ay,Az]
      refine Plan.done ?_;refine wpAnyH_done (by kernel_rfl) ?_ _;clear hHeld;clear i0 i1 t1 ga gb;go_wp2_with fail;refine⟨⟨(-1),i+1,HLE.out,by first | rfl | trivial,by first | rfl | rw[wr2],HV2.out,HB.out.drew⟩,?_⟩;first | exact HM.out | (rw[wr2];exact HM.out)
     ·have HV2:Hid (Fe 1 (Ct (fun v:ByteArray×List Ty=>Tok.s v.1 :: Bq v.2) l l' (i+1))=res):=Hd (by have h:=HV.out;rw[ge,Dg (a:=1) (by decide)] at h;exact h);clear ge;go_wp2_with fail;refine wp_region_held_drew (S:=(fun w'=>(w'.cell? ⟨b,o+i*2,none⟩=some (.string nm)/\w'.cell? ⟨b',o'+i*2,none⟩=some (.string nm'))/\w'.cell? ⟨b,o+i*2+1,none⟩=some (.slice B bl.length d)/\w'.cell? ⟨b',o'+i*2+1,none⟩=some (.slice B' bl'.length d'))) (by kernel_rfl) (HC.out _ (Below.refl wr.heap.size wr).drew) (fun hHeld=>?_);refine Plan.start [0,1,2,3,4,5,6,7,8,9,10,11,12,13,14,15,16,17,18,19,20,21] ?_
      iterate 22 (refine Plan.tk (so rfl) hHeld ?_;try simp only[Act.put,Ax,Ay,Az])
      refine Plan.done ?_;refine wpAnyH_ready (rs:=[22]) (by kernel_rfl) (by simp) ?_;refine AllReadyH.cons (sd (some 50) rfl) (fun K hK=>?_) AllReadyH.nil;go_simp;refine (Cn _ _ _).mono ?_;rintro e w2 ⟨rfl,rfl⟩;simp only[M7];go_wp2_with fail;refine hK.out _ _ (HC.out _ (Below.refl wr.heap.size wr).drew) (fun hHeld=>?_);clear hK K;try simp only[Act.put,Ax,Ay,Az]
      refine Plan.start [23] ?_;refine Plan.tk (so rfl) hHeld ?_;try simp only[Act.put,Ax,Ay,Az]
      refine Plan.done ?_;refine wpAnyH_done (by kernel_rfl) ?_ _;clear hHeld;clear i0 i1 t1 ga gb;go_wp2_with fail;refine⟨⟨1,i+1,HLE.out,by first | rfl | trivial,by first | rfl | rw[wr2],HV2.out,HB.out.drew⟩,?_⟩;first | exact HM.out | (rw[wr2];exact HM.out)
     ·have HV1:Hid (Fe (oo) (Ct (fun v:ByteArray×List Ty=>Tok.s v.1 :: Bq v.2) l l' (i+1))=res):=Hd (by have h:=HV.out;rw[ge,Bj] at h;exact h);clear ge;go_wp2_with fail;refine wp_region_held_drew (S:=(fun w'=>(w'.cell? ⟨b,o+i*2,none⟩=some (.string nm)/\w'.cell? ⟨b',o'+i*2,none⟩=some (.string nm'))/\w'.cell? ⟨b,o+i*2+1,none⟩=some (.slice B bl.length d)/\w'.cell? ⟨b',o'+i*2+1,none⟩=some (.slice B' bl'.length d'))) (by kernel_rfl) (HC.out _ (Below.refl wr.heap.size wr).drew) (fun hHeld=>?_);refine Plan.start [0,1,2,3,4,5,6,7,8,9,10,11,12,13,14,15,16,17,18,19,20,21] ?_
      iterate 22 (refine Plan.tk (so rfl) hHeld ?_;try simp only[Act.put,Ax,Ay,Az])
      refine Plan.done ?_;refine wpAnyH_ready (rs:=[22]) (by kernel_rfl) (by simp) ?_;refine AllReadyH.cons (sd (some 50) rfl) (fun K hK=>?_) AllReadyH.nil;go_simp;refine (Cn _ _ _).mono ?_;rintro e w2 ⟨rfl,rfl⟩;simp only[M7];go_wp2_with fail;refine hK.out _ _ (HC.out _ (Below.refl wr.heap.size wr).drew) (fun hHeld=>?_);clear hK K;try simp only[Act.put,Ax,Ay,Az]
      refine Plan.start [23] ?_;refine Plan.tk (so rfl) hHeld ?_;try simp only[Act.put,Ax,Ay,Az]
      refine Plan.done ?_;refine wpAnyH_done (by kernel_rfl) ?_ _;clear hHeld;clear ga gb;go_wp2_with fail;refine wp_region_held_drew (S:=(fun w'=>(w'.cell? ⟨b,o+i*2,none⟩=some (.string nm)/\w'.cell? ⟨b',o'+i*2,none⟩=some (.string nm'))/\w'.cell? ⟨b,o+i*2+1,none⟩=some (.slice B bl.length d)/\w'.cell? ⟨b',o'+i*2+1,none⟩=some (.slice B' bl'.length d'))) (by kernel_rfl) (HC.out _ (Below.refl wr.heap.size wr).drew.drew) (fun hHeld=>?_);refine Plan.start [0,1,2,3,4,5,6,7,8,9] ?_
      iterate 10 (refine Plan.tk (so rfl) hHeld ?_;try simp only[Act.put,Ax,Ay,Az])
      refine Plan.done ?_;refine wpAnyH_ready (rs:=[10]) (by kernel_rfl) (by simp) ?_;refine AllReadyH.cons (sd (some 63) rfl) (fun K hK=>?_) AllReadyH.nil;go_simp;refine (KO.out _ (Below.refl wr.heap.size wr).drew.drew).mono ?_;rintro e w2 ⟨rfl,hb2⟩;have HB2:=Hd ((Below.refl wr.heap.size wr).drew.drew.trans hb2.below);have HG2:=Hd ((HB.out.drew.drew).trans hb2);clear hb2;go_wp2_with fail;refine hK.out _ _ (HC.out _ HB2.out) (fun hHeld=>?_);clear hK K;try simp only[Act.put,Ax,Ay,Az]
      refine Plan.start [11] ?_;refine Plan.tk (so rfl) hHeld ?_;try simp only[Act.put,Ax,Ay,Az]
      refine Plan.done ?_;refine wpAnyH_done (by kernel_rfl) ?_ _;clear hHeld;clear i0 i1 t1;go_wp2_with fail;refine⟨⟨oo,i+1,HLE.out,by first | rfl | trivial,by first | rfl | rw[wr2],HV1.out,HG2.out⟩,?_⟩;first | exact HM.out | (rw[wr2];exact HM.out)
    ·have t1:decide ((i:Int)<(l.length:Int))=false:=(by simp;omega);have HR:Hid (res=0):=Hd (by
      have h:=HO.out;rw[show i=l.length from by omega,Gz (fun v:ByteArray×List Ty=>Tok.s v.1 :: Bq v.2) HEQ.out,Bj] at h;exact h.symm)
     clear hi hb;go_wp2_with fail;go_ret
     exact⟨by rw[HR.out];rfl,HB.out⟩
   ·have hc0:(cc == 0)=false:=(by simpa using hcc);have HR:Hid (res=cc):=Hd (by rw[<-HO.out,Dg hcc]);clear hi hb hcc;go_wp2_with fail;go_ret
    exact⟨by rw[HR.out];rfl,HB.out⟩
 ·rw[Ij (fun v:ByteArray×List Ty=>Tok.s v.1 :: Bq v.2) heq];rcases F9 (l.length:Int) (l'.length:Int) with ⟨ha,hb,he⟩ | ⟨ha,hb,he⟩ | ⟨ha,hb,he⟩
  ·have HE:=Hd he;have n1:l.length<l'.length:=by omega
   have n2:¬ l'.length<l.length:=by omega
   clear he heq ha hb;go_enter Tryz.func47,Tryz.ntmps47;go_wp2_with fail;refine (Cn _ _ _).mono ?_;rintro e w1 ⟨rfl,rfl⟩;simp only[M7];go_wp2_with fail
   go_loopw [5,6] (fun vc _ wr=>vc=.int .i64 (-1)/\wr=w1) (fun _ _ _=>0)
   case atStart=>exact⟨by first | rfl | simp,rfl⟩
   case round=>
    obtain⟨rfl,rfl⟩:=hrel;go_wp2_with fail;go_ret
    exact⟨by rw[HE.out];rfl,Gw.refl _⟩
  ·have HE:=Hd he;have n1:¬ l.length<l'.length:=by omega
   have n2:l'.length<l.length:=by omega
   clear he heq ha hb;go_enter Tryz.func47,Tryz.ntmps47;go_wp2_with fail;refine (Cn _ _ _).mono ?_;rintro e w1 ⟨rfl,rfl⟩;simp only[M7];go_wp2_with fail
   go_loopw [5,6] (fun vc _ wr=>vc=.int .i64 (1)/\wr=w1) (fun _ _ _=>0)
   case atStart=>exact⟨by first | rfl | simp,rfl⟩
   case round=>
    obtain⟨rfl,rfl⟩:=hrel;go_wp2_with fail;go_ret
    exact⟨by rw[HE.out];rfl,Gw.refl _⟩
  ·exact absurd heq (by omega)
def okV (l:List (ByteArray×List Bool)) (i:Nat):Bool:=match l[i]? with
 | none=>true
 | some v=>Bo v.1 && decide (v.2.length<=1) && v.2.all id && !((l.take i).any fun x=>decide (x.1=v.1))
def Dy (l:List (ByteArray×List Bool)):Bool:=(List.range l.length).all (okV l)
def Rs (l:List (ByteArray×Int×Bool)) (i:Nat):Bool:=match l[i]? with
 | none=>true
 | some f=>Bo f.1 && decide (0<=f.2.1) && decide (f.2.1<=3) && f.2.2 && (match i with | 0=>true | j+1=>match l[j]? with | none=>true | some p=>Go.Op.bytesLess p.1.toList f.1.toList)
def Ca (l:List (ByteArray×Int×Bool)):Bool:=(List.range l.length).all (Rs l)
def Bh (k:Int) (t:ByteArray) (n:Int) (ps:List Ty) (fo vo:Bool):Bool:=
 if k=9 then decide (0<=n) else if k=16\/k=22\/k=17 then Bo t else if k=13 then vo else if k=14 then fo else if k=15 then Hi ps
 else if k=20 then Bo t && decide (0<=n) && decide (n<=3) else if k=21 then (n == 0 && t.toList == []) || (n == 1 && Bo t) else if k=23 then ps.all fun p=>p.k == 13 else true
def Ab:Ty->Bool
 | .mk k t n ps fs vs=>(Ae k).known && Aj (Ae k) t n ps.length fs.length vs.length && Bh k t n ps (Ca (fs.attach.map fun ⟨f,_⟩=>(f.1,f.2.1,Ab f.2.2))) (Dy (vs.attach.map fun ⟨v,_⟩=>(v.1,v.2.attach.map fun ⟨b,_⟩=>Ab b))) && (ps.attach.map fun ⟨p,_⟩=>Ab p).all id
termination_by t=>SizeOf.sizeOf t
decreasing_by
 ·exact Ec ‹_›
 ·exact E5 ‹_› ‹_›
 ·exact Dt ‹_›
def Bf (fs:Bp) (fv:Ty->Bool):List (ByteArray×Int×Bool):=fs.map fun f=>(f.1,f.2.1,fv f.2.2)
def C3 (vs:Bm) (fv:Ty->Bool):List (ByteArray×List Bool):=vs.map fun v=>(v.1,v.2.map fv)
theorem Am (k t n ps fs vs):Ab (.mk k t n ps fs vs)=((Ae k).known && Aj (Ae k) t n ps.length fs.length vs.length && Bh k t n ps (Ca (Bf fs Ab)) (Dy (C3 vs Ab)) && ps.all Ab):=by
 rw[Ab];unfold Bf C3;simp only[List.map_attach_eq_pmap,List.pmap_eq_map,List.all_map,Function.comp_def,id_eq]
theorem Jam {vs:Bm} {fv:Ty->Bool} {i:Nat} (h:i<vs.length):okV (C3 vs fv) i=(Bo vs[i].1 && decide (vs[i].2.length<=1) && vs[i].2.all fv && !((vs.take i).any fun x=>decide (x.1=vs[i].1))):=by
 unfold okV C3;rw[List.getElem?_map,List.getElem?_eq_getElem h];simp only[Option.map_some,List.length_map,List.all_map,<-List.map_take,List.any_map,Function.comp_def,id_eq]
theorem Mz {fs:Bp} {fv:Ty->Bool} (h:0<fs.length):Rs (Bf fs fv) 0=(Bo fs[0].1 && decide (0<=fs[0].2.1) && decide (fs[0].2.1<=3) && fv fs[0].2.2):=by
 unfold Rs Bf;rw[List.getElem?_map,List.getElem?_eq_getElem h];simp
theorem My {fs:Bp} {fv:Ty->Bool} {i:Nat} (h:i+1<fs.length):Rs (Bf fs fv) (i+1)=(Bo fs[i+1].1 && decide (0<=fs[i+1].2.1) && decide (fs[i+1].2.1<=3) && fv fs[i+1].2.2 && Go.Op.bytesLess (fs[i]'(by omega)).1.toList fs[i+1].1.toList):=by
 unfold Rs Bf;rw[List.getElem?_map,List.getElem?_eq_getElem h];have e:(fs.map fun f=>(f.1,f.2.1,fv f.2.2))[i]?=some ((fs[i]'(by omega)).1,(fs[i]'(by omega)).2.1,fv (fs[i]'(by omega)).2.2):=by rw[List.getElem?_map,List.getElem?_eq_getElem (by omega:i<fs.length)];rfl
 simp[e]
theorem Fg (vs:Bm) (fv:Ty->Bool):(C3 vs fv).length=vs.length:=by simp[C3]
theorem D2 (fs:Bp) (fv:Ty->Bool):(Bf fs fv).length=fs.length:=by simp[Bf]
theorem Fy {n i:Nat} {p:Nat->Bool} (hi:i<n) (h:p i=false):(List.range n).all p=false:=
 Bool.eq_false_iff.2 fun h2=>by have:=Eb.1 h2 i hi;rw[h] at this;cases this
end Go.Proofs.YtlpfpehegddcfaaGreatDoor
