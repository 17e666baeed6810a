import Derived.Test.YtlpfpehegddcfaaGreatDoorMn15
namespace Go.Proofs.YtlpfpehegddcfaaGreatDoor
set_option maxRecDepth 100000
set_option maxHeartbeats 64000000
open Go.RowKit
theorem comp_long {K:Nat→Prop} {w0 w:World} {g c:Nat} {s:List Ty} (h:InT K w0 w g c s) (hb:Below w0.heap.size w0 w) (hg:w0.heap.size≤g) (hs:2≤s.length) (hbd:s.length≤1099511627776) :
  Calls Tryz.prog 102 #[.slice (some ⟨g,0,none⟩) s.length c,.func (.func 103) #[] #[]] w fun e w'=>e=.returned (.slice (some ⟨g,0,none⟩) (dedupT s).length c)∧Below w0.heap.size w0 w'∧InT K w0 w' g c (dedupT s):=by
 have H0:=Hd (And.intro h hb)
 have HG:=Hd hg
 have HB:=Hd hbd
 have HS:=Hd hs
 have t2:decide ((s.length:Int)<2)=false:=by simp;omega
 have hcap:=h.le
 clear h hb hg hbd
 go_enter Tryz.func102,Tryz.ntmps102
 go_wp2_with fail
 go_loopw [5] (fun v wr=>∃ (m:Nat),m+1≤s.length∧v=.int .i64 ((m+1:Nat):Int)∧dedupT (s.take (m+1))=s.take (m+1)∧InT K w0 wr g c s∧Below w0.heap.size w0 wr) (fun v _=>s.length - (intOf v).toNat)
 case atStart=>exact⟨0,by omega,rfl,by match s with | []=>rfl | _ :: _=>rfl,H0.out⟩
 case round=>
  obtain⟨m,hm,rfl,hdd,hin,hbr⟩:=hrel
  have HR:=Hd (And.intro hdd (And.intro hin hbr))
  by_cases hlt:m+1<s.length
  ·have t1:decide (((m+1:Nat):Int)<(s.length:Int))=true:=by simp;omega
   obtain⟨p0,p1,p2,p3,p4,p5,p6,p7,p8,p9,pa,pb,hp,hrp⟩:=hin.six hlt
   obtain⟨q0,q1,q2,q3,q4,q5,q6,q7,q8,q9,qa,qb,hq,hrq⟩:=hin.six (i:=m) (by omega)
   have KE:Hid (∀ wx,Below wr.heap.size wr wx→Calls Tryz.prog 103 #[.agg #[.int .i64 p0,.string p1,.int .i64 p2,.slice p3 p4 p5,.slice p6 p7 p8,.slice p9 pa pb],.agg #[.int .i64 q0,.string q1,.int .i64 q2,.slice q3 q4 q5,.slice q6 q7 q8,.slice q9 qa qb]] wx fun e w'=>e=.returned (.bool (ordT s[m+1] s[m] == 0))∧Gw wx w'):=Hd fun wx hx=>eqf_any (hrp.later (hbr.trans (hx.mono hbr.size))) (hrq.later (hbr.trans (hx.mono hbr.size)))
   have HPQ:Hid (∀ wx,Below wr.heap.size wr wx→(wx.cell? ⟨g,(m+1)*6,none⟩=some (.int .i64 p0)∧wx.cell? ⟨g,(m+1)*6+1,none⟩=some (.string p1)∧wx.cell? ⟨g,(m+1)*6+2,none⟩=some (.int .i64 p2)∧wx.cell? ⟨g,(m+1)*6+3,none⟩=some (.slice p3 p4 p5)∧wx.cell? ⟨g,(m+1)*6+4,none⟩=some (.slice p6 p7 p8)∧wx.cell? ⟨g,(m+1)*6+5,none⟩=some (.slice p9 pa pb))∧wx.cell? ⟨g,m*6,none⟩=some (.int .i64 q0)∧wx.cell? ⟨g,m*6+1,none⟩=some (.string q1)∧wx.cell? ⟨g,m*6+2,none⟩=some (.int .i64 q2)∧wx.cell? ⟨g,m*6+3,none⟩=some (.slice q3 q4 q5)∧wx.cell? ⟨g,m*6+4,none⟩=some (.slice q6 q7 q8)∧wx.cell? ⟨g,m*6+5,none⟩=some (.slice q9 qa qb)):=Hd fun wx hx=>⟨⟨cell_stays hx hp.1,cell_stays hx hp.2.1,cell_stays hx hp.2.2.1,cell_stays hx hp.2.2.2.1,cell_stays hx hp.2.2.2.2.1,cell_stays hx hp.2.2.2.2.2⟩,cell_stays hx hq.1,cell_stays hx hq.2.1,cell_stays hx hq.2.2.1,cell_stays hx hq.2.2.2.1,cell_stays hx hq.2.2.2.2.1,cell_stays hx hq.2.2.2.2.2⟩
   have wr1:wrap64 (((m+1:Nat):Int) - 1)=((m:Nat):Int):=by rw[wrap_in (by omega) (by have:=HB.out;omega)];omega
   have wr1':IntKind.i64.wrap (((m+1:Nat):Int) - 1)=((m:Nat):Int):=by
    have e:IntKind.i64.wrap (((m+1:Nat):Int) - 1)=wrap64 (((m+1:Nat):Int) - 1):=by unfold wrap64;exact IntKind.wrap_i64 _
    rw[e,wr1]
   have i0:(0:Int)≤(m:Int)+1:=by omega
   have i1:(m:Int)+1<(s.length:Int):=by omega
   have i2:(0:Int)≤(m:Int):=by omega
   have i3:(m:Int)<(s.length:Int):=by omega
   have wr3:wrap64 (m:Int)=(m:Int):=wrap_in (by omega) (by have:=HB.out;omega)
   have wr3':IntKind.i64.wrap (m:Int)=(m:Int):=by
    have e:IntKind.i64.wrap (m:Int)=wrap64 (m:Int):=by unfold wrap64;exact IntKind.wrap_i64 _
    rw[e,wr3]
   clear hp hq hrp hrq hdd hin hbr
   go_wp2_with fail
   refine wp_region_held_drew (S:=(fun w'=>(w'.cell? ⟨g,(m+1)*6,none⟩=some (.int .i64 p0)∧w'.cell? ⟨g,(m+1)*6+1,none⟩=some (.string p1)∧w'.cell? ⟨g,(m+1)*6+2,none⟩=some (.int .i64 p2)∧w'.cell? ⟨g,(m+1)*6+3,none⟩=some (.slice p3 p4 p5)∧w'.cell? ⟨g,(m+1)*6+4,none⟩=some (.slice p6 p7 p8)∧w'.cell? ⟨g,(m+1)*6+5,none⟩=some (.slice p9 pa pb))∧w'.cell? ⟨g,m*6,none⟩=some (.int .i64 q0)∧w'.cell? ⟨g,m*6+1,none⟩=some (.string q1)∧w'.cell? ⟨g,m*6+2,none⟩=some (.int .i64 q2)∧w'.cell? ⟨g,m*6+3,none⟩=some (.slice q3 q4 q5)∧w'.cell? ⟨g,m*6+4,none⟩=some (.slice q6 q7 q8)∧w'.cell? ⟨g,m*6+5,none⟩=some (.slice q9 qa qb))) (by kernel_rfl) (HPQ.out _ (Below.refl _ _).drew) (fun hHeld=>?_)
   refine Plan.start [0,1,2,3,4,5,6,7,8,9] ?_
   iterate 10 (refine Plan.tk (so rfl) hHeld ?_;try simp only[Act.put,pz1,pz2,pz3])
   refine Plan.done ?_
   refine wpAnyH_ready (rs:=[10]) (by kernel_rfl) (by simp) ?_
   refine AllReadyH.cons (sd (some 28) rfl) (fun K hK=>?_) AllReadyH.nil
   go_simp
   refine (KE.out _ (Below.refl _ _).drew).mono ?_
   rintro e w2 ⟨rfl,hb2⟩
   have HB2:=Hd ((Below.refl wr.heap.size wr).drew.trans hb2.below)
   clear hb2
   go_wp2_with fail
   refine hK.out _ _ (HPQ.out _ HB2.out) (fun hHeld=>?_)
   clear hK K
   try simp only[Act.put,pz1,pz2,pz3]
   refine wpAnyH_done (by kernel_rfl) ?_ _
   clear hHeld
   cases hqq:(ordT s[m+1] s[m] == 0) with
   | false=>
    have HNE:Hid (ordT s[m] s[m+1]≠0):=Hd (by have:ordT s[m+1] s[m]≠0:=(by simpa using hqq);rw[ordT_flip];omega)
    have hlt1:=Hd hlt
    have wr5:wrap64 ((m:Int)+1+1)=(m:Int)+1+1:=wrap_in (by omega) (by have:=HB.out;omega)
    have HM:=Hd (measI hlt)
    clear hqq i0 i1 i2 i3 wr1 wr1' wr3 wr3' hcap t2
    go_wp2_with fail
    refine⟨⟨m+1,hlt1.out,by first | rfl | (rw[wr5];rfl) | simp,?d1,HR.out.2.1.later HB2.out,HR.out.2.2.trans (HB2.out.mono HR.out.2.2.size)⟩,?d2⟩
    case d1=>
     rw[dedup_take (by omega) hlt1.out,if_neg (by simpa using HNE.out),HR.out.1]
     exact (List.take_succ_eq_append_getElem hlt1.out).symm
    case d2=>rw[wr5];exact HM.out
   | true=>
    have HEQ:ordT s[m] s[m+1]=0:=by
     have h0:ordT s[m+1] s[m]=0:=by simpa using hqq
     rw[ordT_flip,h0];rfl
    have HST:=Hd (CompR.start hlt HR.out.1 HEQ (HR.out.2.1.later HB2.out) (HR.out.2.2.trans (HB2.out.mono HR.out.2.2.size)))
    have HL1:Hid ((s.take (m+1)).length=m+1):=Hd (by simp;omega)
    have HLT:=Hd hlt
    clear HEQ hqq i0 i1 i2 i3 wr1 wr1' wr3 wr3' t2 t1 KE HPQ HB2
    go_wp2_with fail
    generalize hn2:s.length - (m+1)=n2
    have HN2:Hid (n2+(m+1)=s.length):=Hd (by omega)
    generalize hoff:(m+1)*6=off
    have HOFF:=Hd hoff
    clear hlt hm hs hn2 hoff
    go_loopw [5,7] (fun v5 v7 wx=>∃ (D:List Ty) (i:Nat),v5=.int .i64 (D.length:Int)∧v7=.int .i64 ((i+1:Nat):Int)∧CompR K w0 wx g c s m D i) (fun _ v7 _=>s.length - (intOf v7).toNat)
    case atStart=>exact⟨s.take (m+1),0,by rw[HL1.out];rfl,rfl,HST.out⟩
    case round=>
     obtain⟨D,i,rfl,rfl,hR⟩:=hrel
     have HRR:=Hd hR
     have hdl:=hR.dl
     have hle:=hR.le
     by_cases hl2:m+2+i<s.length
     ·obtain⟨p0,p1,p2,p3,p4,p5,p6,p7,p8,p9,pa,pb,hp,hrp⟩:=hR.row.sixAt (hR.at (j:=m+2+i) (by omega) hl2)
      obtain⟨q0,q1,q2,q3,q4,q5,q6,q7,q8,q9,qa,qb,hq,hrq⟩:=hR.row.sixAt (hR.at (j:=m+1+i) (by omega) (by omega))
      obtain⟨r0,r1,r2,r3,r4,r5,r6,r7,r8,r9,ra,rb,hr,-⟩:=hR.row.sixAt (i:=D.length) (t:=s[D.length]'(by omega)) (by rw[List.getElem?_append_right (Nat.le_refl _),List.getElem?_drop,Nat.sub_self,Nat.add_zero];exact List.getElem?_eq_getElem (by omega))
      rw[show (m+2+i)*6=off+(i+1)*6 from by have:=HOFF.out;omega] at hp
      rw[show (m+1+i)*6=off+i*6 from by have:=HOFF.out;omega] at hq
      have KE:Hid (∀ wx,Below wr.heap.size wr wx→Calls Tryz.prog 103 #[.agg #[.int .i64 p0,.string p1,.int .i64 p2,.slice p3 p4 p5,.slice p6 p7 p8,.slice p9 pa pb],.agg #[.int .i64 q0,.string q1,.int .i64 q2,.slice q3 q4 q5,.slice q6 q7 q8,.slice q9 qa qb]] wx fun e w'=>e=.returned (.bool (ordT s[m+2+i] s[m+1+i] == 0))∧Gw wx w'):=Hd fun wx hx=>eqf_any (hrp.later (hR.below.trans (hx.mono hR.below.size))) (hrq.later (hR.below.trans (hx.mono hR.below.size)))
      have HPQ:Hid (∀ wx,Below wr.heap.size wr wx→(wx.cell? ⟨g,off+(i+1)*6,none⟩=some (.int .i64 p0)∧wx.cell? ⟨g,off+(i+1)*6+1,none⟩=some (.string p1)∧wx.cell? ⟨g,off+(i+1)*6+2,none⟩=some (.int .i64 p2)∧wx.cell? ⟨g,off+(i+1)*6+3,none⟩=some (.slice p3 p4 p5)∧wx.cell? ⟨g,off+(i+1)*6+4,none⟩=some (.slice p6 p7 p8)∧wx.cell? ⟨g,off+(i+1)*6+5,none⟩=some (.slice p9 pa pb))∧wx.cell? ⟨g,off+i*6,none⟩=some (.int .i64 q0)∧wx.cell? ⟨g,off+i*6+1,none⟩=some (.string q1)∧wx.cell? ⟨g,off+i*6+2,none⟩=some (.int .i64 q2)∧wx.cell? ⟨g,off+i*6+3,none⟩=some (.slice q3 q4 q5)∧wx.cell? ⟨g,off+i*6+4,none⟩=some (.slice q6 q7 q8)∧wx.cell? ⟨g,off+i*6+5,none⟩=some (.slice q9 qa qb)):=Hd fun wx hx=>⟨⟨cell_stays hx hp.1,cell_stays hx hp.2.1,cell_stays hx hp.2.2.1,cell_stays hx hp.2.2.2.1,cell_stays hx hp.2.2.2.2.1,cell_stays hx hp.2.2.2.2.2⟩,cell_stays hx hq.1,cell_stays hx hq.2.1,cell_stays hx hq.2.2.1,cell_stays hx hq.2.2.2.1,cell_stays hx hq.2.2.2.2.1,cell_stays hx hq.2.2.2.2.2⟩
      have HRC:Hid (∀ wx,Below wr.heap.size wr wx→wx.cell? ⟨g,D.length*6,none⟩=some (.int .i64 r0)∧wx.cell? ⟨g,D.length*6+1,none⟩=some (.string r1)∧wx.cell? ⟨g,D.length*6+2,none⟩=some (.int .i64 r2)∧wx.cell? ⟨g,D.length*6+3,none⟩=some (.slice r3 r4 r5)∧wx.cell? ⟨g,D.length*6+4,none⟩=some (.slice r6 r7 r8)∧wx.cell? ⟨g,D.length*6+5,none⟩=some (.slice r9 ra rb)):=Hd fun wx hx=>⟨cell_stays hx hr.1,cell_stays hx hr.2.1,cell_stays hx hr.2.2.1,cell_stays hx hr.2.2.2.1,cell_stays hx hr.2.2.2.2.1,cell_stays hx hr.2.2.2.2.2⟩
      have HFR:Hid (∀ wx,Below wr.heap.size wr wx→∀ o,wx.frozen? ⟨g,o,none⟩=false):=Hd fun wx hx o=>by
       obtain⟨cur,h1,_⟩:=(hR.row.later hx).blk
       exact Lib.frozen_of_heap h1 o
      have HPUT:Hid (ordT s[m+1+i] s[m+2+i]≠0→∀ wy,Below wr.heap.size wr wy→CompR K w0 (wy.setCells g (D.length*6) [.int .i64 p0,.string p1,.int .i64 p2,.slice p3 p4 p5,.slice p6 p7 p8,.slice p9 pa pb]) g c s m (D++[s[m+2+i]]) (i+1)):=Hd fun hne wy hy=>HRR.out.put hl2 hne HG.out hy hrp
      have HSAME:Hid (ordT s[m+1+i] s[m+2+i]=0→∀ wy,Below wr.heap.size wr wy→CompR K w0 wy g c s m D (i+1)):=Hd fun he wy hy=>HRR.out.same hl2 he hy
      have HFL:=Hd (ordT_flip s[m+2+i] s[m+1+i])
      have HLA:Hid ((D++[s[m+2+i]]).length=D.length+1):=Hd (by simp)
      have HME:Hid (s.length - (intOf (Value.int .i64 ((i+1+1:Nat):Int))).toNat<s.length - (intOf (Value.int .i64 ((i+1:Nat):Int))).toNat):=Hd (measI (by omega))
      generalize ordT s[m+2+i] s[m+1+i]=oo at KE HFL
      generalize ordT s[m+1+i] s[m+2+i]=o2 at HPUT HSAME HFL
      generalize hDD:D++[s[m+2+i]]=DD at HPUT HLA
      have hnn:=HN2.out
      have t1:decide (((i+1:Nat):Int)<(n2:Int))=true:=by simp;omega
      have wr1:wrap64 (((i+1:Nat):Int) - 1)=((i:Nat):Int):=by rw[wrap_in (by omega) (by have:=HB.out;omega)];omega
      have wr1':IntKind.i64.wrap (((i+1:Nat):Int) - 1)=((i:Nat):Int):=by
       have e:IntKind.i64.wrap (((i+1:Nat):Int) - 1)=wrap64 (((i+1:Nat):Int) - 1):=by unfold wrap64;exact IntKind.wrap_i64 _
       rw[e,wr1]
      have wr3:wrap64 (i:Int)=(i:Int):=wrap_in (by omega) (by have:=HB.out;omega)
      have wr3':IntKind.i64.wrap (i:Int)=(i:Int):=by
       have e:IntKind.i64.wrap (i:Int)=wrap64 (i:Int):=by unfold wrap64;exact IntKind.wrap_i64 _
       rw[e,wr3]
      have i0:(0:Int)≤(i:Int)+1:=by omega
      have i1:(i:Int)+1<(n2:Int):=by omega
      have i2:(0:Int)≤(i:Int):=by omega
      have i3:(i:Int)<(n2:Int):=by omega
      have j1:(D.length:Int)<(s.length:Int):=by omega
      have wr5:wrap64 ((i:Int)+1+1)=(i:Int)+1+1:=wrap_in (by omega) (by have:=HB.out;omega)
      have wr6:wrap64 ((D.length:Int)+1)=(D.length:Int)+1:=wrap_in (by omega) (by have:=HB.out;omega)
      have HI1:=Hd i1
      clear hp hq hr hrp hrq hR hdl hle hl2 hnn hDD
      go_wp2_with fail
      refine wp_region_held_drew (S:=(fun w'=>(w'.cell? ⟨g,off+(i+1)*6,none⟩=some (.int .i64 p0)∧w'.cell? ⟨g,off+(i+1)*6+1,none⟩=some (.string p1)∧w'.cell? ⟨g,off+(i+1)*6+2,none⟩=some (.int .i64 p2)∧w'.cell? ⟨g,off+(i+1)*6+3,none⟩=some (.slice p3 p4 p5)∧w'.cell? ⟨g,off+(i+1)*6+4,none⟩=some (.slice p6 p7 p8)∧w'.cell? ⟨g,off+(i+1)*6+5,none⟩=some (.slice p9 pa pb))∧w'.cell? ⟨g,off+i*6,none⟩=some (.int .i64 q0)∧w'.cell? ⟨g,off+i*6+1,none⟩=some (.string q1)∧w'.cell? ⟨g,off+i*6+2,none⟩=some (.int .i64 q2)∧w'.cell? ⟨g,off+i*6+3,none⟩=some (.slice q3 q4 q5)∧w'.cell? ⟨g,off+i*6+4,none⟩=some (.slice q6 q7 q8)∧w'.cell? ⟨g,off+i*6+5,none⟩=some (.slice q9 qa qb))) (by kernel_rfl) (HPQ.out _ (Below.refl _ _).drew) (fun hHeld=>?_)
      refine Plan.start [0,1,2,3,4,5,6,7,8,9] ?_
      iterate 10 (refine Plan.tk (so rfl) hHeld ?_;try simp only[Act.put,pz1,pz2,pz3])
      refine Plan.done ?_
      refine wpAnyH_ready (rs:=[10]) (by kernel_rfl) (by simp) ?_
      refine AllReadyH.cons (sd (some 48) rfl) (fun K hK=>?_) AllReadyH.nil
      go_simp
      refine (KE.out _ (Below.refl _ _).drew).mono ?_
      rintro e w2 ⟨rfl,hb2⟩
      have HB2:=Hd ((Below.refl wr.heap.size wr).drew.trans hb2.below)
      clear hb2
      go_wp2_with fail
      refine hK.out _ _ (HPQ.out _ HB2.out) (fun hHeld=>?_)
      clear hK K
      try simp only[Act.put,pz1,pz2,pz3]
      refine Plan.start [11] ?_
      refine Plan.tk (so rfl) hHeld ?_
      try simp only[Act.put,pz1,pz2,pz3]
      refine Plan.done ?_
      refine wpAnyH_done (by kernel_rfl) ?_ _
      clear hHeld
      have HO2:Hid (oo == 0↔o2=0):=Hd (by have:=HFL.out;rw[beq_iff_eq];omega)
      clear i0 i1 i2 i3 wr1 wr1' wr3 wr3' t1
      cases hqq:(oo == 0) with
      | true=>
       have HSM:=Hd (HSAME.out (HO2.out.1 hqq) _ HB2.out)
       clear hqq KE HPQ HRC HFR HPUT HSAME
       go_wp2_with fail
       refine⟨⟨D,i+1,by first | rfl | trivial,by first | rfl | (rw[wr5];rfl),HSM.out⟩,?_⟩
       first | exact HME.out | (rw[wr5];exact HME.out)
      | false=>
       have HSM:=Hd (HPUT.out (fun h=>by have:=HO2.out.2 h;rw[hqq] at this;cases this) _ HB2.out)
       obtain⟨e0,e1,e2,e3,e4,e5⟩:=HRC.out _ HB2.out
       obtain⟨⟨u0,u1,u2,u3,u4,u5⟩,-⟩:=HPQ.out _ HB2.out
       have hfr:=HFR.out _ HB2.out
       have i0:(0:Int)≤(i:Int)+1:=by omega
       have i1:(i:Int)+1<(n2:Int):=by have:=HI1.out;omega
       clear hqq KE HPQ HRC HFR HPUT HSAME
       go_wp2_with fail
       refine⟨⟨DD,i+1,by rw[HLA.out];first | rfl | (rw[wr6];rfl),by first | rfl | (rw[wr5];rfl),HSM.out⟩,?_⟩
       first | exact HME.out | (rw[wr5];exact HME.out)
     ·have hnn:=HN2.out
      have t1:decide (((i+1:Nat):Int)<(n2:Int))=false:=by simp;omega
      have t2:¬ i+1<n2:=by omega
      have hdc:=hR.row.le
      have hdc2:D.length≤c:=by simp at hdc;omega
      have hdl2:D.length<s.length:=by omega
      have hth:=fun (j:Nat) (hj:j<c*6)=>hR.row.there hj
      have hcl:∀ ty,(Builtin.clear_ #[22] ty #[.slice (some ⟨g,D.length*6,none⟩) (s.length - D.length) (c - D.length)]).run Tryz.prog wr=.ok (.tuple #[]) (wr.setCells g (D.length*6) (Builtin.zeroCells #[.int .i64 0,.string ⟨#[]⟩,.int .i64 0,.slice none 0 0,.slice none 0 0,.slice none 0 0] (s.length - D.length)).toList):=fun ty=>run_clear_types wr ty g (D.length*6) (s.length - D.length) (c - D.length) (by omega) (fun j hj=>hth _ (by omega))
      have HFI:=Hd (hR.fin hl2 HG.out (Builtin.zeroCells #[.int .i64 0,.string ⟨#[]⟩,.int .i64 0,.slice none 0 0,.slice none 0 0,.slice none 0 0] (s.length - D.length)).toList)
      generalize (Builtin.zeroCells #[.int .i64 0,.string ⟨#[]⟩,.int .i64 0,.slice none 0 0,.slice none 0 0,.slice none 0 0] (s.length - D.length)).toList=LL at hcl HFI
      clear hR hdl hle hl2 hnn hth hdc
      go_wp2_with fail
      go_ret
      rw[←HFI.out.1]
      exact⟨rfl,HFI.out.2.2,HFI.out.2.1⟩
  ·have HD:Hid (dedupT s=s):=Hd (by have h:=HR.out.1;rw[List.take_of_length_le (by omega)] at h;exact h)
   have t1:decide (((m+1:Nat):Int)<(s.length:Int))=false:=by simp;omega
   clear hdd hin hbr hm
   go_wp2_with fail
   go_ret
   rw[HD.out]
   exact⟨rfl,HR.out.2.2,HR.out.2.1⟩
theorem infoFd:(Tryz.prog.info? 32).map (fun i=>(i.zero,i.size,i.bytes))=some (some (.agg #[.string ⟨#[]⟩,.int .i64 0,.string ⟨#[]⟩,.int .i64 0,.slice none 0 0,.slice none 0 0,.slice none 0 0]),7,120):=by kernel_rfl
def WhE (P:Nat→Prop) (K:Nat→Prop) (w:World) (t:Ty) (cs:List Value):Prop:=RepT (fun b=>K b∧P b) w t cs
theorem keepWh (P:Nat→Prop):KeepE (WhE P):=fun K K' w w' a cs h h1=>keepTy (fun b=>K b∧P b) (fun b=>K' b∧P b) w w' a cs (fun b hb=>⟨⟨(h b hb.1).1,hb.2⟩,(h b hb.1).2⟩) h1
theorem OwnE.listW {P:Nat→Prop} {B:Nat} {w:World} {v:Value} {l:List Ty} (h:OwnE (WhE P) 26 6 B w v l) (hB:∀ b,B≤b→P b) (hl:l.length≤1000000000000000):∃ A c,v=.slice A l.length c∧ListT (fun b=>P b∧b<w.heap.size) w l A c:=by
 have hc:∃ A c,v=.slice A l.length c∧(A=none→l.length=0∧c=0)∧l.length≤c:=by
  obtain⟨vs,h1,h2⟩:=h
  rcases h1.2 with ⟨hv,hn⟩ | ⟨g,cap,cur,hv,hg,hh,hle,r⟩
  ·exact⟨none,0,by rw[hv,hn],(fun _=>⟨hn,rfl⟩),by omega⟩
  ·exact⟨_,cap,hv,(fun h=>by cases h),hle⟩
 obtain⟨A0,c0,hv0,hn0,hle0⟩:=hc
 obtain⟨A,c,g,o,hv,hA,hat⟩:=h.spread
 rw[hv0] at hv
 injection hv with hv1 _ hv3
 subst hv1
 subst hv3
 refine⟨A0,c0,hv0,⟨g,o,⟨hle0,hl,fun e=>?_,fun h0=>?_⟩,fun i hi=>?_⟩⟩
 ·first | exact hn0 e | exact (hn0 e).2 | exact (hn0 e).1
 ·obtain⟨e1,e2,e3⟩:=hA h0
  exact⟨e1,hB g e2,e3⟩
 ·obtain⟨cs,h1,h2,h3⟩:=hat i hi
  exact⟨cs,h3,RepT.weak h1 fun b hb=>⟨hb.2,hb.1.1⟩⟩
end Go.Proofs.YtlpfpehegddcfaaGreatDoor
