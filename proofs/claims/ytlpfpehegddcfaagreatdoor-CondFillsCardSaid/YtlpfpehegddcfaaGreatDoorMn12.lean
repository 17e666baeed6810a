import Derived.Test.YtlpfpehegddcfaaGreatDoorMn10
namespace Go.Proofs.YtlpfpehegddcfaaGreatDoor
set_option maxRecDepth 100000
set_option maxHeartbeats 64000000
open Go.RowKit
theorem fields_ref (l l':FsT) (h:∀ f∈l,OrdR f.2.2) {K K':Nat→Prop} {w:World} {A A':Option Addr} {c c':Nat} (h1:ListF K w l A c) (h2:ListF K' w l' A' c') :
  Calls Tryz.prog 46 #[.slice A l.length c,.slice A' l'.length c'] w fun e w'=>e=.returned (.int .i64 (lexC (rowE (fun f:ByteArray×Int×Ty=>[Tok.s f.1,.i f.2.1]++flat f.2.2) l) (rowE (fun f:ByteArray×Int×Ty=>[Tok.s f.1,.i f.2.1]++flat f.2.2) l')))∧Gw w w':=by
 have H1:=Hd h1
 have H2:=Hd h2
 have HI:=Hd h
 have hl1:l.length≤1000000000000000:=by obtain⟨_,_,hr,_⟩:=h1;exact hr.big
 have hl2:l'.length≤1000000000000000:=by obtain⟨_,_,hr,_⟩:=h2;exact hr.big
 clear h h1 h2
 by_cases heq:l.length=l'.length
 ·rw[row_same (fun f:ByteArray×Int×Ty=>[Tok.s f.1,.i f.2.1]++flat f.2.2) heq]
  generalize hres:restC (fun f:ByteArray×Int×Ty=>[Tok.s f.1,.i f.2.1]++flat f.2.2) l l' 0=res
  have HRES:=Hd hres
  have HEQ:=Hd heq
  rw[←heq]
  have hirr:¬ l.length<l.length:=Nat.lt_irrefl _
  clear hres heq hl2
  go_enter Tryz.func46,Tryz.ntmps46
  go_wp2_with fail
  refine (sign_any _ _ _).mono ?_
  rintro e w1 ⟨rfl,rfl⟩
  simp only[sgn]
  go_wp2_with fail
  go_loopw [5,6] (fun vc vi wr=>∃ (cc:Int) (i:Nat),i≤l.length∧vc=.int .i64 cc∧vi=.int .i64 i∧or2 cc (restC (fun f:ByteArray×Int×Ty=>[Tok.s f.1,.i f.2.1]++flat f.2.2) l l' i)=res∧Gw w1 wr) (fun _ vi _=>l.length - (intOf vi).toNat)
  case atStart=>exact⟨0,0,by omega,by first | rfl | simp,rfl,by rw[or2_zero];exact HRES.out,Gw.refl _⟩
  case round=>
   obtain⟨cc,i,hi,rfl,rfl,ho,hb⟩:=hrel
   have HO:=Hd ho
   have HB:=Hd hb
   clear ho
   by_cases hcc:cc=0
   ·subst hcc
    by_cases hin:i<l.length
    ·have t1:decide ((i:Int)<(l.length:Int))=true:=by simp;omega
     have wr2:wrap64 ((i:Int)+1)=((i+1:Nat):Int):=wrap_one (by omega)
     have HM:=Hd (measI hin)
     have hin':i<l'.length:=by rw[←HEQ.out];exact hin
     have hstep:=rest_step (fun f:ByteArray×Int×Ty=>[Tok.s f.1,.i f.2.1]++flat f.2.2) cleanFd HEQ.out hin hin'
     have hval:or2 (lexC ((fun f:ByteArray×Int×Ty=>[Tok.s f.1,.i f.2.1]++flat f.2.2) l[i]) ((fun f:ByteArray×Int×Ty=>[Tok.s f.1,.i f.2.1]++flat f.2.2) l'[i])) (restC (fun f:ByteArray×Int×Ty=>[Tok.s f.1,.i f.2.1]++flat f.2.2) l l' (i+1))=res:=by rw[←hstep,←or2_zero (restC (fun f:ByteArray×Int×Ty=>[Tok.s f.1,.i f.2.1]++flat f.2.2) l l' i)];exact HO.out
     obtain⟨b,o,hA,_,hat⟩:=H1.out.at (by omega)
     obtain⟨b',o',hA',_,hat'⟩:=H2.out.at (by omega)
     subst hA hA'
     have i0:(0:Int)≤(i:Int):=by omega
     have i1:(i:Int)<(l.length:Int):=by omega
     clear hstep
     have HLE:Hid (i+1≤l.length):=Hd hin
     obtain⟨hn,hf,-,hT⟩:=hat i hin
     obtain⟨hn',hf',-,hT'⟩:=hat' i hin'
     obtain⟨p0,p1,p2,p3,p4,p5,p6,p7,p8,p9,pa,pb,hp,hrp⟩:=(hT.later hb.below).six2
     obtain⟨q0,q1,q2,q3,q4,q5,q6,q7,q8,q9,qa,qb,hq,hrq⟩:=(hT'.later hb.below).six2
     replace hn:=cell_stays (w:=w1) (w':=wr) hb.below hn
     replace hn':=cell_stays (w:=w1) (w':=wr) hb.below hn'
     replace hf:=cell_stays (w:=w1) (w':=wr) hb.below hf
     replace hf':=cell_stays (w:=w1) (w':=wr) hb.below hf'
     have KO:Hid (∀ wx,Below wr.heap.size wr wx→Calls Tryz.prog 20 #[.agg #[.int .i64 p0,.string p1,.int .i64 p2,.slice p3 p4 p5,.slice p6 p7 p8,.slice p9 pa pb],.agg #[.int .i64 q0,.string q1,.int .i64 q2,.slice q3 q4 q5,.slice q6 q7 q8,.slice q9 qa qb]] wx fun e w'=>e=.returned (.int .i64 (ordT (l[i]'hin).2.2 (l'[i]'hin').2.2))∧Gw wx w'):=Hd fun wx hx=>HI.out _ (List.getElem_mem hin) K K' (l'[i]'hin').2.2 wx _ _ (hrp.later hx) (hrq.later hx)
     have hval2:or2 (or2 (cmpB (l[i]'hin).1 (l'[i]'hin').1) (or2 (cmpZ (l[i]'hin).2.1 (l'[i]'hin').2.1) (ordT (l[i]'hin).2.2 (l'[i]'hin').2.2))) (restC (fun f:ByteArray×Int×Ty=>[Tok.s f.1,.i f.2.1]++flat f.2.2) l l' (i+1))=res:=by rw[←field_steps];exact hval
     generalize ordT (l[i]'hin).2.2 (l'[i]'hin').2.2=oo at KO hval2
     generalize hnm:(l[i]'hin).1=nm at hn hval2
     generalize hnm':(l'[i]'hin').1=nm' at hn' hval2
     generalize hfl:(l[i]'hin).2.1=fl at hf hval2
     generalize hfl':(l'[i]'hin').2.1=fl' at hf' hval2
     have HC:Hid (∀ wx,Below wr.heap.size wr wx→(wx.cell? ⟨b,o+i*8,none⟩=some (.string nm)∧wx.cell? ⟨b',o'+i*8,none⟩=some (.string nm'))∧(wx.cell? ⟨b,o+i*8+1,none⟩=some (.int .i64 fl)∧wx.cell? ⟨b',o'+i*8+1,none⟩=some (.int .i64 fl'))∧(wx.cell? ⟨b,o+i*8+2,none⟩=some (.int .i64 p0)∧wx.cell? ⟨b,o+i*8+2+1,none⟩=some (.string p1)∧wx.cell? ⟨b,o+i*8+2+2,none⟩=some (.int .i64 p2)∧wx.cell? ⟨b,o+i*8+2+3,none⟩=some (.slice p3 p4 p5)∧wx.cell? ⟨b,o+i*8+2+4,none⟩=some (.slice p6 p7 p8)∧wx.cell? ⟨b,o+i*8+2+5,none⟩=some (.slice p9 pa pb))∧wx.cell? ⟨b',o'+i*8+2,none⟩=some (.int .i64 q0)∧wx.cell? ⟨b',o'+i*8+2+1,none⟩=some (.string q1)∧wx.cell? ⟨b',o'+i*8+2+2,none⟩=some (.int .i64 q2)∧wx.cell? ⟨b',o'+i*8+2+3,none⟩=some (.slice q3 q4 q5)∧wx.cell? ⟨b',o'+i*8+2+4,none⟩=some (.slice q6 q7 q8)∧wx.cell? ⟨b',o'+i*8+2+5,none⟩=some (.slice q9 qa qb)):=Hd fun wx hx=>⟨⟨cell_stays hx hn,cell_stays hx hn'⟩,⟨cell_stays hx hf,cell_stays hx hf'⟩,⟨cell_stays hx hp.1,cell_stays hx hp.2.1,cell_stays hx hp.2.2.1,cell_stays hx hp.2.2.2.1,cell_stays hx hp.2.2.2.2.1,cell_stays hx hp.2.2.2.2.2⟩,⟨cell_stays hx hq.1,cell_stays hx hq.2.1,cell_stays hx hq.2.2.1,cell_stays hx hq.2.2.2.1,cell_stays hx hq.2.2.2.2.1,cell_stays hx hq.2.2.2.2.2⟩⟩
     have HV:=Hd hval2
     clear hat hat' hp hq hrp hrq hval hval2 hi hb hn hn' hf hf' hnm hnm' hfl hfl' hT hT'
     rcases cmpB_cases nm nm' with ⟨ga,gb,ge⟩ | ⟨ga,gb,ge⟩ | ⟨ga,gb,ge⟩
     ·have HV2:Hid (or2 (-1) (restC (fun f:ByteArray×Int×Ty=>[Tok.s f.1,.i f.2.1]++flat f.2.2) l l' (i+1))=res):=Hd (by have h:=HV.out;rw[ge,or2_ne (a:=-1) (by decide)] at h;exact h)
      clear ge
      go_wp2_with fail
      refine wp_region_held_drew (S:=(fun w'=>(w'.cell? ⟨b,o+i*8,none⟩=some (.string nm)∧w'.cell? ⟨b',o'+i*8,none⟩=some (.string nm'))∧(w'.cell? ⟨b,o+i*8+1,none⟩=some (.int .i64 fl)∧w'.cell? ⟨b',o'+i*8+1,none⟩=some (.int .i64 fl'))∧(w'.cell? ⟨b,o+i*8+2,none⟩=some (.int .i64 p0)∧w'.cell? ⟨b,o+i*8+2+1,none⟩=some (.string p1)∧w'.cell? ⟨b,o+i*8+2+2,none⟩=some (.int .i64 p2)∧w'.cell? ⟨b,o+i*8+2+3,none⟩=some (.slice p3 p4 p5)∧w'.cell? ⟨b,o+i*8+2+4,none⟩=some (.slice p6 p7 p8)∧w'.cell? ⟨b,o+i*8+2+5,none⟩=some (.slice p9 pa pb))∧w'.cell? ⟨b',o'+i*8+2,none⟩=some (.int .i64 q0)∧w'.cell? ⟨b',o'+i*8+2+1,none⟩=some (.string q1)∧w'.cell? ⟨b',o'+i*8+2+2,none⟩=some (.int .i64 q2)∧w'.cell? ⟨b',o'+i*8+2+3,none⟩=some (.slice q3 q4 q5)∧w'.cell? ⟨b',o'+i*8+2+4,none⟩=some (.slice q6 q7 q8)∧w'.cell? ⟨b',o'+i*8+2+5,none⟩=some (.slice q9 qa qb))) (by kernel_rfl) (HC.out _ (Below.refl wr.heap.size wr).drew) (fun hHeld=>?_)
      refine Plan.start [0,1,2,3,4,5,6,7,8,9,10,11,12,13,14,15,16,17,18,19,20,21] ?_
      iterate 22 (refine Plan.tk (so rfl) hHeld ?_;try simp only[Act.put,pz1,pz2,pz3])
      refine Plan.done ?_
      refine wpAnyH_ready (rs:=[22]) (by kernel_rfl) (by simp) ?_
      refine AllReadyH.cons (sd (some 50) rfl) (fun K hK=>?_) AllReadyH.nil
      go_simp
      refine (sign_any _ _ _).mono ?_
      rintro e w2 ⟨rfl,rfl⟩
      simp only[sgn]
      go_wp2_with fail
      refine hK.out _ _ (HC.out _ (Below.refl wr.heap.size wr).drew) (fun hHeld=>?_)
      clear hK K
      try simp only[Act.put,pz1,pz2,pz3]
      refine Plan.start [23] ?_
      refine Plan.tk (so rfl) hHeld ?_
      try simp only[Act.put,pz1,pz2,pz3]
      refine Plan.done ?_
      refine wpAnyH_done (by kernel_rfl) ?_ _
      clear hHeld
      clear i0 i1 t1 ga gb
      go_wp2_with fail
      refine⟨⟨(-1),i+1,HLE.out,by first | rfl | trivial,by first | rfl | rw[wr2],HV2.out,HB.out.drew⟩,?_⟩
      first | exact HM.out | (rw[wr2];exact HM.out)
     ·have HV2:Hid (or2 1 (restC (fun f:ByteArray×Int×Ty=>[Tok.s f.1,.i f.2.1]++flat f.2.2) l l' (i+1))=res):=Hd (by have h:=HV.out;rw[ge,or2_ne (a:=1) (by decide)] at h;exact h)
      clear ge
      go_wp2_with fail
      refine wp_region_held_drew (S:=(fun w'=>(w'.cell? ⟨b,o+i*8,none⟩=some (.string nm)∧w'.cell? ⟨b',o'+i*8,none⟩=some (.string nm'))∧(w'.cell? ⟨b,o+i*8+1,none⟩=some (.int .i64 fl)∧w'.cell? ⟨b',o'+i*8+1,none⟩=some (.int .i64 fl'))∧(w'.cell? ⟨b,o+i*8+2,none⟩=some (.int .i64 p0)∧w'.cell? ⟨b,o+i*8+2+1,none⟩=some (.string p1)∧w'.cell? ⟨b,o+i*8+2+2,none⟩=some (.int .i64 p2)∧w'.cell? ⟨b,o+i*8+2+3,none⟩=some (.slice p3 p4 p5)∧w'.cell? ⟨b,o+i*8+2+4,none⟩=some (.slice p6 p7 p8)∧w'.cell? ⟨b,o+i*8+2+5,none⟩=some (.slice p9 pa pb))∧w'.cell? ⟨b',o'+i*8+2,none⟩=some (.int .i64 q0)∧w'.cell? ⟨b',o'+i*8+2+1,none⟩=some (.string q1)∧w'.cell? ⟨b',o'+i*8+2+2,none⟩=some (.int .i64 q2)∧w'.cell? ⟨b',o'+i*8+2+3,none⟩=some (.slice q3 q4 q5)∧w'.cell? ⟨b',o'+i*8+2+4,none⟩=some (.slice q6 q7 q8)∧w'.cell? ⟨b',o'+i*8+2+5,none⟩=some (.slice q9 qa qb))) (by kernel_rfl) (HC.out _ (Below.refl wr.heap.size wr).drew) (fun hHeld=>?_)
      refine Plan.start [0,1,2,3,4,5,6,7,8,9,10,11,12,13,14,15,16,17,18,19,20,21] ?_
      iterate 22 (refine Plan.tk (so rfl) hHeld ?_;try simp only[Act.put,pz1,pz2,pz3])
      refine Plan.done ?_
      refine wpAnyH_ready (rs:=[22]) (by kernel_rfl) (by simp) ?_
      refine AllReadyH.cons (sd (some 50) rfl) (fun K hK=>?_) AllReadyH.nil
      go_simp
      refine (sign_any _ _ _).mono ?_
      rintro e w2 ⟨rfl,rfl⟩
      simp only[sgn]
      go_wp2_with fail
      refine hK.out _ _ (HC.out _ (Below.refl wr.heap.size wr).drew) (fun hHeld=>?_)
      clear hK K
      try simp only[Act.put,pz1,pz2,pz3]
      refine Plan.start [23] ?_
      refine Plan.tk (so rfl) hHeld ?_
      try simp only[Act.put,pz1,pz2,pz3]
      refine Plan.done ?_
      refine wpAnyH_done (by kernel_rfl) ?_ _
      clear hHeld
      clear i0 i1 t1 ga gb
      go_wp2_with fail
      refine⟨⟨1,i+1,HLE.out,by first | rfl | trivial,by first | rfl | rw[wr2],HV2.out,HB.out.drew⟩,?_⟩
      first | exact HM.out | (rw[wr2];exact HM.out)
     ·have HV1:Hid (or2 (or2 (cmpZ fl fl') oo) (restC (fun f:ByteArray×Int×Ty=>[Tok.s f.1,.i f.2.1]++flat f.2.2) l l' (i+1))=res):=Hd (by have h:=HV.out;rw[ge,or2_zero] at h;exact h)
      clear ge
      go_wp2_with fail
      refine wp_region_held_drew (S:=(fun w'=>(w'.cell? ⟨b,o+i*8,none⟩=some (.string nm)∧w'.cell? ⟨b',o'+i*8,none⟩=some (.string nm'))∧(w'.cell? ⟨b,o+i*8+1,none⟩=some (.int .i64 fl)∧w'.cell? ⟨b',o'+i*8+1,none⟩=some (.int .i64 fl'))∧(w'.cell? ⟨b,o+i*8+2,none⟩=some (.int .i64 p0)∧w'.cell? ⟨b,o+i*8+2+1,none⟩=some (.string p1)∧w'.cell? ⟨b,o+i*8+2+2,none⟩=some (.int .i64 p2)∧w'.cell? ⟨b,o+i*8+2+3,none⟩=some (.slice p3 p4 p5)∧w'.cell? ⟨b,o+i*8+2+4,none⟩=some (.slice p6 p7 p8)∧w'.cell? ⟨b,o+i*8+2+5,none⟩=some (.slice p9 pa pb))∧w'.cell? ⟨b',o'+i*8+2,none⟩=some (.int .i64 q0)∧w'.cell? ⟨b',o'+i*8+2+1,none⟩=some (.string q1)∧w'.cell? ⟨b',o'+i*8+2+2,none⟩=some (.int .i64 q2)∧w'.cell? ⟨b',o'+i*8+2+3,none⟩=some (.slice q3 q4 q5)∧w'.cell? ⟨b',o'+i*8+2+4,none⟩=some (.slice q6 q7 q8)∧w'.cell? ⟨b',o'+i*8+2+5,none⟩=some (.slice q9 qa qb))) (by kernel_rfl) (HC.out _ (Below.refl wr.heap.size wr).drew) (fun hHeld=>?_)
      refine Plan.start [0,1,2,3,4,5,6,7,8,9,10,11,12,13,14,15,16,17,18,19,20,21] ?_
      iterate 22 (refine Plan.tk (so rfl) hHeld ?_;try simp only[Act.put,pz1,pz2,pz3])
      refine Plan.done ?_
      refine wpAnyH_ready (rs:=[22]) (by kernel_rfl) (by simp) ?_
      refine AllReadyH.cons (sd (some 50) rfl) (fun K hK=>?_) AllReadyH.nil
      go_simp
      refine (sign_any _ _ _).mono ?_
      rintro e w2 ⟨rfl,rfl⟩
      simp only[sgn]
      go_wp2_with fail
      refine hK.out _ _ (HC.out _ (Below.refl wr.heap.size wr).drew) (fun hHeld=>?_)
      clear hK K
      try simp only[Act.put,pz1,pz2,pz3]
      refine Plan.start [23] ?_
      refine Plan.tk (so rfl) hHeld ?_
      try simp only[Act.put,pz1,pz2,pz3]
      refine Plan.done ?_
      refine wpAnyH_done (by kernel_rfl) ?_ _
      clear hHeld
      clear ga gb
      go_wp2_with fail
      rcases cmpZ_cases fl fl' with ⟨ga,gb,ge⟩ | ⟨ga,gb,ge⟩ | ⟨ga,gb,ge⟩
      ·have HV2:Hid (or2 (-1) (restC (fun f:ByteArray×Int×Ty=>[Tok.s f.1,.i f.2.1]++flat f.2.2) l l' (i+1))=res):=Hd (by have h:=HV1.out;rw[ge,or2_ne (a:=-1) (by decide)] at h;exact h)
       have g1:decide (fl<fl')=true:=by simpa using ga
       have g2:decide (fl'<fl)=false:=by simpa using gb
       clear ge
       go_wp2_with fail
       refine wp_region_held_drew (S:=(fun w'=>(w'.cell? ⟨b,o+i*8,none⟩=some (.string nm)∧w'.cell? ⟨b',o'+i*8,none⟩=some (.string nm'))∧(w'.cell? ⟨b,o+i*8+1,none⟩=some (.int .i64 fl)∧w'.cell? ⟨b',o'+i*8+1,none⟩=some (.int .i64 fl'))∧(w'.cell? ⟨b,o+i*8+2,none⟩=some (.int .i64 p0)∧w'.cell? ⟨b,o+i*8+2+1,none⟩=some (.string p1)∧w'.cell? ⟨b,o+i*8+2+2,none⟩=some (.int .i64 p2)∧w'.cell? ⟨b,o+i*8+2+3,none⟩=some (.slice p3 p4 p5)∧w'.cell? ⟨b,o+i*8+2+4,none⟩=some (.slice p6 p7 p8)∧w'.cell? ⟨b,o+i*8+2+5,none⟩=some (.slice p9 pa pb))∧w'.cell? ⟨b',o'+i*8+2,none⟩=some (.int .i64 q0)∧w'.cell? ⟨b',o'+i*8+2+1,none⟩=some (.string q1)∧w'.cell? ⟨b',o'+i*8+2+2,none⟩=some (.int .i64 q2)∧w'.cell? ⟨b',o'+i*8+2+3,none⟩=some (.slice q3 q4 q5)∧w'.cell? ⟨b',o'+i*8+2+4,none⟩=some (.slice q6 q7 q8)∧w'.cell? ⟨b',o'+i*8+2+5,none⟩=some (.slice q9 qa qb))) (by kernel_rfl) (HC.out _ (Below.refl wr.heap.size wr).drew.drew) (fun hHeld=>?_)
       refine Plan.start [0,1,2,3,4,5,6,7,8,9,10,11,12,13,14,15,16,17,18,19,20,21] ?_
       iterate 22 (refine Plan.tk (so rfl) hHeld ?_;try simp only[Act.put,pz1,pz2,pz3])
       refine Plan.done ?_
       refine wpAnyH_ready (rs:=[22]) (by kernel_rfl) (by simp) ?_
       refine AllReadyH.cons (sd (some 75) rfl) (fun K hK=>?_) AllReadyH.nil
       go_simp
       refine (sign_any _ _ _).mono ?_
       rintro e w2 ⟨rfl,rfl⟩
       simp only[sgn]
       go_wp2_with fail
       refine hK.out _ _ (HC.out _ (Below.refl wr.heap.size wr).drew.drew) (fun hHeld=>?_)
       clear hK K
       try simp only[Act.put,pz1,pz2,pz3]
       refine Plan.start [23] ?_
       refine Plan.tk (so rfl) hHeld ?_
       try simp only[Act.put,pz1,pz2,pz3]
       refine Plan.done ?_
       refine wpAnyH_done (by kernel_rfl) ?_ _
       clear hHeld
       clear i0 i1 t1
       go_wp2_with fail
       refine⟨⟨(-1),i+1,HLE.out,by first | rfl | trivial,by first | rfl | rw[wr2],HV2.out,HB.out.drew.drew⟩,?_⟩
       first | exact HM.out | (rw[wr2];exact HM.out)
      ·have HV2:Hid (or2 1 (restC (fun f:ByteArray×Int×Ty=>[Tok.s f.1,.i f.2.1]++flat f.2.2) l l' (i+1))=res):=Hd (by have h:=HV1.out;rw[ge,or2_ne (a:=1) (by decide)] at h;exact h)
       have g1:decide (fl<fl')=false:=by simpa using ga
       have g2:decide (fl'<fl)=true:=by simpa using gb
       clear ge
       go_wp2_with fail
       refine wp_region_held_drew (S:=(fun w'=>(w'.cell? ⟨b,o+i*8,none⟩=some (.string nm)∧w'.cell? ⟨b',o'+i*8,none⟩=some (.string nm'))∧(w'.cell? ⟨b,o+i*8+1,none⟩=some (.int .i64 fl)∧w'.cell? ⟨b',o'+i*8+1,none⟩=some (.int .i64 fl'))∧(w'.cell? ⟨b,o+i*8+2,none⟩=some (.int .i64 p0)∧w'.cell? ⟨b,o+i*8+2+1,none⟩=some (.string p1)∧w'.cell? ⟨b,o+i*8+2+2,none⟩=some (.int .i64 p2)∧w'.cell? ⟨b,o+i*8+2+3,none⟩=some (.slice p3 p4 p5)∧w'.cell? ⟨b,o+i*8+2+4,none⟩=some (.slice p6 p7 p8)∧w'.cell? ⟨b,o+i*8+2+5,none⟩=some (.slice p9 pa pb))∧w'.cell? ⟨b',o'+i*8+2,none⟩=some (.int .i64 q0)∧w'.cell? ⟨b',o'+i*8+2+1,none⟩=some (.string q1)∧w'.cell? ⟨b',o'+i*8+2+2,none⟩=some (.int .i64 q2)∧w'.cell? ⟨b',o'+i*8+2+3,none⟩=some (.slice q3 q4 q5)∧w'.cell? ⟨b',o'+i*8+2+4,none⟩=some (.slice q6 q7 q8)∧w'.cell? ⟨b',o'+i*8+2+5,none⟩=some (.slice q9 qa qb))) (by kernel_rfl) (HC.out _ (Below.refl wr.heap.size wr).drew.drew) (fun hHeld=>?_)
       refine Plan.start [0,1,2,3,4,5,6,7,8,9,10,11,12,13,14,15,16,17,18,19,20,21] ?_
       iterate 22 (refine Plan.tk (so rfl) hHeld ?_;try simp only[Act.put,pz1,pz2,pz3])
       refine Plan.done ?_
       refine wpAnyH_ready (rs:=[22]) (by kernel_rfl) (by simp) ?_
       refine AllReadyH.cons (sd (some 75) rfl) (fun K hK=>?_) AllReadyH.nil
       go_simp
       refine (sign_any _ _ _).mono ?_
       rintro e w2 ⟨rfl,rfl⟩
       simp only[sgn]
       go_wp2_with fail
       refine hK.out _ _ (HC.out _ (Below.refl wr.heap.size wr).drew.drew) (fun hHeld=>?_)
       clear hK K
       try simp only[Act.put,pz1,pz2,pz3]
       refine Plan.start [23] ?_
       refine Plan.tk (so rfl) hHeld ?_
       try simp only[Act.put,pz1,pz2,pz3]
       refine Plan.done ?_
       refine wpAnyH_done (by kernel_rfl) ?_ _
       clear hHeld
       clear i0 i1 t1
       go_wp2_with fail
       refine⟨⟨1,i+1,HLE.out,by first | rfl | trivial,by first | rfl | rw[wr2],HV2.out,HB.out.drew.drew⟩,?_⟩
       first | exact HM.out | (rw[wr2];exact HM.out)
      ·have HV2:Hid (or2 oo (restC (fun f:ByteArray×Int×Ty=>[Tok.s f.1,.i f.2.1]++flat f.2.2) l l' (i+1))=res):=Hd (by have h:=HV1.out;rw[ge,or2_zero] at h;exact h)
       have g1:decide (fl<fl')=false:=by simpa using ga
       have g2:decide (fl'<fl)=false:=by simpa using gb
       clear ge
       go_wp2_with fail
       refine wp_region_held_drew (S:=(fun w'=>(w'.cell? ⟨b,o+i*8,none⟩=some (.string nm)∧w'.cell? ⟨b',o'+i*8,none⟩=some (.string nm'))∧(w'.cell? ⟨b,o+i*8+1,none⟩=some (.int .i64 fl)∧w'.cell? ⟨b',o'+i*8+1,none⟩=some (.int .i64 fl'))∧(w'.cell? ⟨b,o+i*8+2,none⟩=some (.int .i64 p0)∧w'.cell? ⟨b,o+i*8+2+1,none⟩=some (.string p1)∧w'.cell? ⟨b,o+i*8+2+2,none⟩=some (.int .i64 p2)∧w'.cell? ⟨b,o+i*8+2+3,none⟩=some (.slice p3 p4 p5)∧w'.cell? ⟨b,o+i*8+2+4,none⟩=some (.slice p6 p7 p8)∧w'.cell? ⟨b,o+i*8+2+5,none⟩=some (.slice p9 pa pb))∧w'.cell? ⟨b',o'+i*8+2,none⟩=some (.int .i64 q0)∧w'.cell? ⟨b',o'+i*8+2+1,none⟩=some (.string q1)∧w'.cell? ⟨b',o'+i*8+2+2,none⟩=some (.int .i64 q2)∧w'.cell? ⟨b',o'+i*8+2+3,none⟩=some (.slice q3 q4 q5)∧w'.cell? ⟨b',o'+i*8+2+4,none⟩=some (.slice q6 q7 q8)∧w'.cell? ⟨b',o'+i*8+2+5,none⟩=some (.slice q9 qa qb))) (by kernel_rfl) (HC.out _ (Below.refl wr.heap.size wr).drew.drew) (fun hHeld=>?_)
       refine Plan.start [0,1,2,3,4,5,6,7,8,9,10,11,12,13,14,15,16,17,18,19,20,21] ?_
       iterate 22 (refine Plan.tk (so rfl) hHeld ?_;try simp only[Act.put,pz1,pz2,pz3])
       refine Plan.done ?_
       refine wpAnyH_ready (rs:=[22]) (by kernel_rfl) (by simp) ?_
       refine AllReadyH.cons (sd (some 75) rfl) (fun K hK=>?_) AllReadyH.nil
       go_simp
       refine (sign_any _ _ _).mono ?_
       rintro e w2 ⟨rfl,rfl⟩
       simp only[sgn]
       go_wp2_with fail
       refine hK.out _ _ (HC.out _ (Below.refl wr.heap.size wr).drew.drew) (fun hHeld=>?_)
       clear hK K
       try simp only[Act.put,pz1,pz2,pz3]
       refine Plan.start [23] ?_
       refine Plan.tk (so rfl) hHeld ?_
       try simp only[Act.put,pz1,pz2,pz3]
       refine Plan.done ?_
       refine wpAnyH_done (by kernel_rfl) ?_ _
       clear hHeld
       clear ga gb
       go_wp2_with fail
       refine wp_region_held_drew (S:=(fun w'=>(w'.cell? ⟨b,o+i*8,none⟩=some (.string nm)∧w'.cell? ⟨b',o'+i*8,none⟩=some (.string nm'))∧(w'.cell? ⟨b,o+i*8+1,none⟩=some (.int .i64 fl)∧w'.cell? ⟨b',o'+i*8+1,none⟩=some (.int .i64 fl'))∧(w'.cell? ⟨b,o+i*8+2,none⟩=some (.int .i64 p0)∧w'.cell? ⟨b,o+i*8+2+1,none⟩=some (.string p1)∧w'.cell? ⟨b,o+i*8+2+2,none⟩=some (.int .i64 p2)∧w'.cell? ⟨b,o+i*8+2+3,none⟩=some (.slice p3 p4 p5)∧w'.cell? ⟨b,o+i*8+2+4,none⟩=some (.slice p6 p7 p8)∧w'.cell? ⟨b,o+i*8+2+5,none⟩=some (.slice p9 pa pb))∧w'.cell? ⟨b',o'+i*8+2,none⟩=some (.int .i64 q0)∧w'.cell? ⟨b',o'+i*8+2+1,none⟩=some (.string q1)∧w'.cell? ⟨b',o'+i*8+2+2,none⟩=some (.int .i64 q2)∧w'.cell? ⟨b',o'+i*8+2+3,none⟩=some (.slice q3 q4 q5)∧w'.cell? ⟨b',o'+i*8+2+4,none⟩=some (.slice q6 q7 q8)∧w'.cell? ⟨b',o'+i*8+2+5,none⟩=some (.slice q9 qa qb))) (by kernel_rfl) (HC.out _ (Below.refl wr.heap.size wr).drew.drew.drew) (fun hHeld=>?_)
       refine Plan.start [0,1,2,3,4,5,6,7,8,9] ?_
       iterate 10 (refine Plan.tk (so rfl) hHeld ?_;try simp only[Act.put,pz1,pz2,pz3])
       refine Plan.done ?_
       refine wpAnyH_ready (rs:=[10]) (by kernel_rfl) (by simp) ?_
       refine AllReadyH.cons (sd (some 88) rfl) (fun K hK=>?_) AllReadyH.nil
       go_simp
       refine (KO.out _ (Below.refl wr.heap.size wr).drew.drew.drew).mono ?_
       rintro e w2 ⟨rfl,hb2⟩
       have HB2:=Hd ((Below.refl wr.heap.size wr).drew.drew.drew.trans hb2.below)
       have HG2:=Hd ((HB.out.drew.drew.drew).trans hb2)
       clear hb2
       go_wp2_with fail
       refine hK.out _ _ (HC.out _ HB2.out) (fun hHeld=>?_)
       clear hK K
       try simp only[Act.put,pz1,pz2,pz3]
       refine Plan.start [11] ?_
       refine Plan.tk (so rfl) hHeld ?_
       try simp only[Act.put,pz1,pz2,pz3]
       refine Plan.done ?_
       refine wpAnyH_done (by kernel_rfl) ?_ _
       clear hHeld
       clear i0 i1 t1
       go_wp2_with fail
       refine⟨⟨oo,i+1,HLE.out,by first | rfl | trivial,by first | rfl | rw[wr2],HV2.out,HG2.out⟩,?_⟩
       first | exact HM.out | (rw[wr2];exact HM.out)
    ·have t1:decide ((i:Int)<(l.length:Int))=false:=by simp;omega
     have HR:Hid (res=0):=Hd (by
      have h:=HO.out
      rw[show i=l.length from by omega,rest_end (fun f:ByteArray×Int×Ty=>[Tok.s f.1,.i f.2.1]++flat f.2.2) HEQ.out,or2_zero] at h
      exact h.symm)
     clear hi hb
     go_wp2_with fail
     go_ret
     exact⟨by rw[HR.out];rfl,HB.out⟩
   ·have hc0:(cc == 0)=false:=by simpa using hcc
    have HR:Hid (res=cc):=Hd (by rw[←HO.out,or2_ne hcc])
    clear hi hb hcc
    go_wp2_with fail
    go_ret
    exact⟨by rw[HR.out];rfl,HB.out⟩
 ·rw[row_len (fun f:ByteArray×Int×Ty=>[Tok.s f.1,.i f.2.1]++flat f.2.2) heq]
  rcases cmpZ_cases (l.length:Int) (l'.length:Int) with ⟨ha,hb,he⟩ | ⟨ha,hb,he⟩ | ⟨ha,hb,he⟩
  ·have HE:=Hd he
   have n1:l.length<l'.length:=by omega
   have n2:¬ l'.length<l.length:=by omega
   clear he heq ha hb
   go_enter Tryz.func46,Tryz.ntmps46
   go_wp2_with fail
   refine (sign_any _ _ _).mono ?_
   rintro e w1 ⟨rfl,rfl⟩
   simp only[sgn]
   go_wp2_with fail
   go_loopw [5,6] (fun vc _ wr=>vc=.int .i64 (-1)∧wr=w1) (fun _ _ _=>0)
   case atStart=>exact⟨by first | rfl | simp,rfl⟩
   case round=>
    obtain⟨rfl,rfl⟩:=hrel
    go_wp2_with fail
    go_ret
    exact⟨by rw[HE.out];rfl,Gw.refl _⟩
  ·have HE:=Hd he
   have n1:¬ l.length<l'.length:=by omega
   have n2:l'.length<l.length:=by omega
   clear he heq ha hb
   go_enter Tryz.func46,Tryz.ntmps46
   go_wp2_with fail
   refine (sign_any _ _ _).mono ?_
   rintro e w1 ⟨rfl,rfl⟩
   simp only[sgn]
   go_wp2_with fail
   go_loopw [5,6] (fun vc _ wr=>vc=.int .i64 (1)∧wr=w1) (fun _ _ _=>0)
   case atStart=>exact⟨by first | rfl | simp,rfl⟩
   case round=>
    obtain⟨rfl,rfl⟩:=hrel
    go_wp2_with fail
    go_ret
    exact⟨by rw[HE.out];rfl,Gw.refl _⟩
  ·exact absurd heq (by omega)
end Go.Proofs.YtlpfpehegddcfaaGreatDoor
