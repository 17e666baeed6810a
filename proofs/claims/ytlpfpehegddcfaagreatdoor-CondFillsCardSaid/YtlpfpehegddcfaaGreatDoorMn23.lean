import Derived.Test.YtlpfpehegddcfaaGreatDoorMn22
namespace Go.Proofs.YtlpfpehegddcfaaGreatDoor
set_option maxRecDepth 100000
set_option maxHeartbeats 64000000
open Go.RowKit
theorem cntL_cons (a:Ty) (l:List Ty):cntL (a :: l)=cntT a+cntL l:=by simp[cntL]
theorem namesP_cnt (k:Int):∀ (ps:List Ty) (i:Nat),(∀ p∈ps,(namesI p).length≤cntT p)→(namesP k i ps).length≤cntL ps
 | [],_,_=>by simp[namesP,cntL]
 | p :: l,i,h=>by
  have h1:=h p List.mem_cons_self
  have h2:=namesP_cnt k l (i+1) fun q hq=>h q (List.mem_cons_of_mem _ hq)
  rw[namesP,cntL_cons,List.length_append]
  split
  ·simp only[List.length_nil];omega
  ·omega
theorem namesF_cnt:∀ (fs:FsT),(∀ f∈fs,(namesI f.2.2).length≤cntT f.2.2)→(namesF fs).length≤cntF fs
 | [],_=>by simp[namesF]
 | f :: l,h=>by
  have h1:=h f List.mem_cons_self
  have h2:=namesF_cnt l fun q hq=>h q (List.mem_cons_of_mem _ hq)
  have e1:namesF (f :: l)=namesI f.2.2++namesF l:=by simp[namesF]
  have e2:cntF (f :: l)=cntT f.2.2+cntF l:=by simp[cntF]
  rw[e1,e2,List.length_append];omega
theorem names_cnt (t:Ty):(namesI t).length≤cntT t:=by
 refine Ty.ind (C:=fun t=>(namesI t).length≤cntT t) (fun k t n ps fs vs hp hf _=>?_) t
 rw[namesI_mk,cntT_mk]
 have h1:=namesP_cnt k ps 0 hp
 have h2:=namesF_cnt fs hf
 split
 ·simp only[List.length_singleton];omega
 ·rw[List.length_append];omega
theorem cntT_pos (t:Ty):1≤cntT t:=by
 obtain⟨k,s,n,ps,fs,vs⟩:=t
 rw[cntT_mk];omega
theorem cntL_mem:∀ {l:List Ty} {x:Ty},x∈l→cntT x≤cntL l
 | a :: l,x,h=>by
  rw[cntL_cons]
  rcases List.mem_cons.1 h with rfl | h
  ·omega
  ·have:=cntL_mem h;omega
theorem flatU_cnt_of:∀ (l:List Ty),(∀ p∈l,(parts1 p).length≤cntT p∧∀ x∈parts1 p,cntT x≤cntT p)→(flatU l).length≤cntL l∧∀ x∈flatU l,cntT x≤cntL l
 | [],_=>⟨by simp[flatU],fun x h=>absurd h (by simp[flatU])⟩
 | a :: l,h=>by
  obtain⟨h1,h2⟩:=h a List.mem_cons_self
  obtain⟨h3,h4⟩:=flatU_cnt_of l fun q hq=>h q (List.mem_cons_of_mem _ hq)
  rw[flatU_cons,cntL_cons,List.length_append]
  refine⟨by omega,fun x hx=>?_⟩
  rcases List.mem_append.1 hx with hx | hx
  ·have:=h2 x hx;omega
  ·have:=h4 x hx;omega
theorem parts1_cnt (t:Ty):(parts1 t).length≤cntT t∧∀ x∈parts1 t,cntT x≤cntT t:=by
 refine Ty.ind (C:=fun t=>(parts1 t).length≤cntT t∧∀ x∈parts1 t,cntT x≤cntT t) (fun k t n ps fs vs hp _ _=>?_) t
 rw[parts1_mk]
 split
 ·obtain⟨h1,h2⟩:=flatU_cnt_of ps hp
  rw[cntT_mk]
  exact⟨by omega,fun x hx=>by have:=h2 x hx;omega⟩
 ·refine⟨by have:=cntT_pos (.mk k t n ps fs vs);simpa using this,fun x hx=>?_⟩
  rw[List.mem_singleton] at hx
  subst hx;exact Nat.le_refl _
theorem flatU_cnt (l:List Ty):(flatU l).length≤cntL l∧∀ x∈flatU l,cntT x≤cntL l:=flatU_cnt_of l fun p _=>parts1_cnt p
theorem parts1_form (t:Ty):formT t=true→∀ x∈parts1 t,formT x=true:=by
 refine Ty.ind (C:=fun t=>formT t=true→∀ x∈parts1 t,formT x=true) (fun k t n ps fs vs hp _ _ h x hx=>?_) t
 rw[parts1_mk] at hx
 split at hx
 ·rw[formT_mk,Bool.and_eq_true,List.all_eq_true] at h
  unfold flatU at hx
  rw[List.mem_flatten] at hx
  obtain⟨m,hm,hx⟩:=hx
  obtain⟨p,hpm,rfl⟩:=List.mem_map.1 hm
  exact hp p hpm (h.2 p hpm) x hx
 ·rw[List.mem_singleton] at hx
  subst hx;exact h
theorem flatU_form {l:List Ty} (h:l.all formT=true):∀ x∈flatU l,formT x=true:=fun x hx=>by
 unfold flatU at hx
 rw[List.mem_flatten] at hx
 obtain⟨m,hm,hx⟩:=hx
 obtain⟨p,hpm,rfl⟩:=List.mem_map.1 hm
 exact parts1_form p (List.all_eq_true.1 h p hpm) x hx
theorem fits_none {s:Shp} {t:ByteArray} {n:Int} {np nf nv:Nat} (h:fitsB s t n np nf nv=true) (hs:s.hi=0) (hf:s.f=false) (hv:s.v=false):np=0∧nf=0∧nv=0∧(s.t=false→t.toList=[])∧(s.n=false→n=0):=by
 unfold fitsB at h
 rw[hs,hf,hv] at h
 simp only[Bool.and_eq_true,Bool.not_eq_true',Bool.or_eq_false_iff,Bool.or_eq_true,decide_eq_true_eq,beq_iff_eq,Bool.not_false,Bool.true_and,decide_eq_false_iff_not] at h
 obtain⟨⟨⟨⟨h1,h2⟩,h3⟩,h4⟩,h5,h6⟩:=h
 refine⟨by omega,by omega,by omega,fun e=>?_,fun e=>?_⟩
 ·rw[e] at h1;simpa using h1
 ·rw[e] at h2;simpa using h2
theorem form_fits {k:Int} {t:ByteArray} {n:Int} {ps:List Ty} {fs:FsT} {vs:VsT} (h:formT (.mk k t n ps fs vs)=true):fitsB (shapeK k) t n ps.length fs.length vs.length=true:=by
 rw[formT_mk,Bool.and_eq_true,Bool.and_eq_true,Bool.and_eq_true] at h
 exact h.1.1.2
theorem form_kind {k:Int} {x:Ty} (hx:formT x=true) (hk:x.k=k) (h1:1≤k) (h8:k≤8):x=tyK k:=by
 obtain⟨q,t,n,ps,fs,vs⟩:=x
 have e:q=k:=hk
 subst e
 have hs:shapeK q=⟨false,false,false,false,0,0,true⟩:=by unfold shapeK;rw[if_pos ⟨h1,h8⟩]
 have hf:=form_fits hx
 rw[hs] at hf
 obtain⟨a,b,c,d,e⟩:=fits_none hf rfl rfl rfl
 have ht:t=emptyB:=bytes_ext (by have:=d rfl;rw[ByteArray.toList_eq] at this;rw[this];rfl)
 rw[List.eq_nil_of_length_eq_zero a,List.eq_nil_of_length_eq_zero b,List.eq_nil_of_length_eq_zero c,ht,e rfl]
 rfl
theorem form_leaf {x:Ty} (hx:formT x=true) (hk:x.k=7∨x.k=8∨x.k=9∨x.k=10):infT x=false:=by
 obtain⟨q,t,n,ps,fs,vs⟩:=x
 have hk':q=7∨q=8∨q=9∨q=10:=hk
 have hf:=form_fits hx
 have h0:ps.length=0∧fs.length=0:=by
  rcases hk' with rfl | rfl | rfl | rfl <;> (have:=fits_none hf rfl rfl rfl;exact⟨this.1,this.2.1⟩)
 have e:(q == 22)=false:=by rcases hk' with rfl | rfl | rfl | rfl <;> rfl
 rw[infT_mk,List.eq_nil_of_length_eq_zero h0.1,List.eq_nil_of_length_eq_zero h0.2,e]
 rfl
theorem plain_form {l:List Ty} (h:l.all formT=true):PlainK (flatU l):=fun x hx=>
 have hf:=flatU_form h x hx
 ⟨fun e=>form_kind hf e (by decide) (by decide),fun e=>form_kind hf e (by decide) (by decide),form_leaf hf⟩
def FormR (t:Ty):Prop:=∀ (K:Nat→Prop) (w:World) (cs:List Value),RepT K w t cs→cntT t≤1000000→Calls Tryz.prog 38 #[.agg cs.toArray] w fun e w'=>e=.returned (.bool (formT t))∧Below w.heap.size w w'
theorem allF_drop {l:List Ty} {i:Nat} (h:i<l.length):(l.drop i).all formT=(formT l[i] && (l.drop (i+1)).all formT):=by rw[List.drop_eq_getElem_cons h];rfl
theorem all_ref (l:List Ty) (h:∀ p∈l,FormR p) {K:Nat→Prop} {w:World} {A:Option Addr} {c:Nat} (hL:ListT K w l A c) (hc:cntL l≤1000000) :
  Calls Tryz.prog 69 #[.slice A l.length c] w fun e w'=>e=.returned (.bool (l.all formT))∧Below w.heap.size w w':=by
 have HL:=Hd hL
 have HH:=Hd h
 have HC:=Hd hc
 have hll:=hL.short
 clear hL h hc
 go_enter Tryz.func69,Tryz.ntmps69
 go_wp2_with fail
 go_loopw [3] (fun v wr=>∃ (i:Nat),i≤l.length∧v=.int .i64 i∧l.all formT=(l.drop i).all formT∧Below w.heap.size w wr) (fun v _=>l.length - (intOf v).toNat)
 case atStart=>exact⟨0,by omega,rfl,by rw[List.drop_zero],Below.refl _ _⟩
 case round=>
  obtain⟨i,hi,rfl,he,hb⟩:=hrel
  have HE:=Hd he
  have HB:=Hd hb
  clear he hb
  by_cases hin:i<l.length
  ·have t1:decide ((i:Int)<(l.length:Int))=true:=by simp;omega
   have wr2:wrap64 ((i:Int)+1)=((i+1:Nat):Int):=wrap_one (by omega)
   have HM:=Hd (measI hin)
   obtain⟨b,o,hA,_,hat⟩:=HL.out.at (by omega)
   have hti:=hat i hin
   have hpi:=HH.out _ (List.getElem_mem hin)
   have HS:=Hd (allF_drop hin)
   have hci:=Nat.le_trans (cntL_mem (List.getElem_mem hin)) HC.out
   have HIn:Hid (i+1≤l.length):=Hd hin
   subst hA
   generalize l[i]=t at hti hpi HS hci
   obtain⟨cs,hcs,hrep⟩:=hti
   have KI:=Hd (hpi K wr cs (hrep.later HB.out) hci)
   generalize formT t=q at HS KI
   obtain⟨k2,s2,n2,ps2,fs2,vs2⟩:=t
   obtain⟨Aq,cq,Ag,cg,Ah,ch,rfl,-⟩:=hrep.inv
   have y0:=cell_stays HB.out (hcs 0 _ rfl)
   have y1:=cell_stays HB.out (hcs 1 _ rfl)
   have y2:=cell_stays HB.out (hcs 2 _ rfl)
   have y3:=cell_stays HB.out (hcs 3 _ rfl)
   have y4:=cell_stays HB.out (hcs 4 _ rfl)
   have y5:=cell_stays HB.out (hcs 5 _ rfl)
   rw[Nat.add_zero] at y0
   simp only[cells6T] at KI
   clear hi hat hpi hcs hrep hci
   go_wp2_with fail
   refine KI.out.mono ?_
   rintro e w2 ⟨rfl,hb2⟩
   have HB2:=Hd (below_then HB.out hb2)
   clear hb2 KI y0 y1 y2 y3 y4 y5
   cases q with
   | true=>
    go_wp2_with fail
    refine⟨⟨i+1,HIn.out,by first | rfl | rw[wr2],by rw[HE.out,HS.out];rfl,HB2.out⟩,?_⟩
    first | exact HM.out | (rw[wr2];exact HM.out)
   | false=>
    go_wp2_with fail
    go_ret
    exact⟨by rw[HE.out,HS.out];rfl,HB2.out⟩
  ·have t1:decide ((i:Int)<(l.length:Int))=false:=by simp;omega
   have HE1:Hid (l.all formT=true):=Hd (by rw[HE.out,List.drop_eq_nil_of_le (by omega)];rfl)
   clear hi
   go_wp2_with fail
   go_ret
   exact⟨by rw[HE1.out];rfl,HB.out⟩
theorem cntV_mem:∀ {l:VsT} {v:ByteArray×List Ty},v∈l→cntL v.2≤cntV l
 | a :: l,v,h=>by
  have e:cntV (a :: l)=cntL a.2+cntV l:=by simp[cntV]
  rw[e]
  rcases List.mem_cons.1 h with rfl | h
  ·omega
  ·have:=cntV_mem h;omega
theorem any_none {l:VsT} {i:Nat} {nm:ByteArray} (h:∀ j (hj:j<l.length),j<i→l[j].1≠nm):((l.take i).any fun x=>decide (x.1=nm))=false:=by
 rw[List.any_eq_false]
 intro x hx
 obtain⟨j,hj,rfl⟩:=List.getElem_of_mem hx
 simp only[List.length_take] at hj
 rw[List.getElem_take]
 simpa using h j (by omega) (by omega)
theorem any_some {l:VsT} {i j:Nat} {nm:ByteArray} (hj:j<l.length) (hji:j<i) (h:l[j].1=nm):((l.take i).any fun x=>decide (x.1=nm))=true:=by
 rw[List.any_eq_true]
 refine⟨l[j],?_,by simpa using h⟩
 have:(l.take i)[j]'(by simp;omega)=l[j]:=List.getElem_take
 rw[←this]
 exact List.getElem_mem _
theorem binds_ref (l:VsT) (h:∀ v∈l,∀ b∈v.2,FormR b) {K:Nat→Prop} {w:World} {A:Option Addr} {c:Nat} (hL:ListV K w l A c) (hll:l.length≤1000000000000000) (hc:cntV l≤1000000) :
  Calls Tryz.prog 71 #[.slice A l.length c] w fun e w'=>e=.returned (.bool (varsB (varsT l formT)))∧Below w.heap.size w w':=by
 have HL:=Hd hL
 have HH:=Hd h
 have HC:=Hd hc
 clear hL h hc
 go_enter Tryz.func71,Tryz.ntmps71
 go_wp2_with fail
 go_loopw [3] (fun v wr=>∃ (i:Nat),i≤l.length∧v=.int .i64 i∧(∀ j,j<i→okV (varsT l formT) j=true)∧Below w.heap.size w wr) (fun v _=>l.length - (intOf v).toNat)
 case atStart=>exact⟨0,by omega,rfl,fun j hj=>absurd hj (by omega),Below.refl _ _⟩
 case round=>
  obtain⟨i,hi,rfl,he,hb⟩:=hrel
  have HE:=Hd he
  have HB:=Hd hb
  clear he hb
  by_cases hin:i<l.length
  ·have t1:decide ((i:Int)<(l.length:Int))=true:=by simp;omega
   have wr2:wrap64 ((i:Int)+1)=((i+1:Nat):Int):=wrap_one (by omega)
   have HM:=Hd (measI hin)
   obtain⟨b,o,hA,hat⟩:∃ b o,A=some ⟨b,o,none⟩∧∀ i (h:i<l.length),∃ B d,w.cell? ⟨b,o+i*2,none⟩=some (.string l[i].1)∧w.cell? ⟨b,o+i*2+1,none⟩=some (.slice B l[i].2.length d)∧l[i].1.size≤1000000000000000∧ListT K w l[i].2 B d:=by
    obtain⟨b,o,h1,h2⟩:=HL.out
    exact⟨b,o,(h1.some (by omega)).1,h2⟩
   obtain⟨B,d,hc0,hc1,hsz,hT⟩:=hat i hin
   have HOK:=Hd (okV_at (fv:=formT) hin)
   subst hA
   have HNO:Hid (okV (varsT l formT) i=false→varsB (varsT l formT)=false):=Hd fun e=>by unfold varsB;exact allB_no (by rw[varsT_len];exact hin) e
   have HCell:Hid (∀ k (h:k<l.length),∃ q,q=l[k].1∧w.cell? ⟨b,o+k*2,none⟩=some (.string q)):=Hd fun k h=>⟨_,rfl,(by obtain⟨B,d,h1,-⟩:=hat k h;exact h1)⟩
   have KAll:=Hd fun wx (hx:Below w.heap.size w wx)=>all_ref l[i].2 (HH.out _ (List.getElem_mem hin)) (hT.later hx) (Nat.le_trans (cntV_mem (List.getElem_mem hin)) HC.out)
   generalize l[i].1=nm at hc0 hsz HOK
   generalize l[i].2=bs at hc1 hT HOK KAll
   have x0:=cell_stays HB.out hc0
   have x1:=cell_stays HB.out hc1
   have KN:=Hd (name_ref nm wr hsz)
   have hbl:=hT.short
   have HX:Hid (∀ wx,Below w.heap.size w wx→wx.cell? ⟨b,o+i*2,none⟩=some (.string nm)∧wx.cell? ⟨b,o+i*2+1,none⟩=some (.slice B bs.length d)):=Hd fun wx hx=>⟨cell_stays hx hc0,cell_stays hx hc1⟩
   have HIn:Hid (i+1≤l.length):=Hd hin
   clear hi hT hc0 hc1 hat
   go_wp2_with fail
   refine KN.out.mono ?_
   rintro e w2 ⟨rfl,hb2⟩
   have HB2:=Hd (below_then HB.out hb2)
   obtain⟨y0,y1⟩:=HX.out _ HB2.out
   clear x0 x1 hb2 KN
   cases hn:nameT nm with
   | false=>
    have HF:=Hd (HNO.out (by rw[HOK.out,hn];rfl))
    clear hn
    go_wp2_with fail
    go_ret
    exact⟨by rw[HF.out];rfl,HB2.out⟩
   | true=>
    have HN:=Hd hn
    clear hn
    by_cases hlen:1<bs.length
    ·have t2:decide (1<bs.length)=true:=decide_eq_true hlen
     have HF:=Hd (HNO.out (by rw[HOK.out,HN.out,decide_eq_false (by omega)];rfl))
     go_wp2_with fail
     go_ret
     exact⟨by rw[HF.out];rfl,HB2.out⟩
    ·have t2:decide (1<bs.length)=false:=decide_eq_false hlen
     have HLe:Hid (decide (bs.length≤1)=true):=Hd (decide_eq_true (by omega))
     go_wp2_with fail
     refine (KAll.out _ HB2.out).mono ?_
     rintro e w3 ⟨rfl,hb3⟩
     have HB3:=Hd (below_then HB2.out hb3)
     obtain⟨z0,z1⟩:=HX.out _ HB3.out
     clear y0 y1 hb3 KAll
     cases hal:bs.all formT with
     | false=>
      have HF:=Hd (HNO.out (by rw[HOK.out,HN.out,HLe.out,hal];rfl))
      clear hal
      go_wp2_with fail
      go_ret
      exact⟨by rw[HF.out];rfl,HB3.out⟩
     | true=>
      have HAL:=Hd hal
      clear hal
      go_wp2_with fail
      go_loopw [4] (fun v wx=>∃ (k:Nat),k≤i∧v=.int .i64 k∧(∀ j (hj:j<l.length),j<k→l[j].1≠nm)∧Below w3.heap.size w3 wx) (fun v _=>i - (intOf v).toNat)
      case atStart=>exact⟨0,by omega,rfl,fun j _ hj=>absurd hj (by omega),Below.refl _ _⟩
      case round=>
       obtain⟨k,hk,rfl,hne,hbx⟩:=hrel
       have HBX:=Hd hbx
       have HB4:=Hd (below_then HB3.out hbx)
       replace z0:=cell_stays hbx z0
       replace z1:=cell_stays hbx z1
       clear hbx
       have HNE:=Hd hne
       clear hne
       by_cases hki:k<i
       ·have t3:decide ((k:Int)<(i:Int))=true:=by simp;omega
        have t4:decide (k<i)=true:=decide_eq_true hki
        have wr3:wrap64 ((k:Int)+1)=((k+1:Nat):Int):=wrap_one (by omega)
        have HM3:=Hd (measI hki)
        obtain⟨q,hq,hcq0⟩:=HCell.out k (by omega)
        have hcq:=cell_stays HB4.out hcq0
        have hkl:k<l.length:=by omega
        have i1:(k:Int)<(l.length:Int):=by omega
        have i2:(0:Int)≤(k:Int):=by omega
        have i3:(i:Int)<(l.length:Int):=by omega
        have i4:(0:Int)≤(i:Int):=by omega
        have i5:i<l.length:=hin
        have HQ:Hid (∀ hkl:k<l.length,q=l[k].1):=Hd fun _=>hq
        have HKI:Hid (k+1≤i):=Hd hki
        have HCQ:Hid (∀ wx,Below wr.heap.size wr wx→wx.cell? ⟨b,o+k*2,none⟩=some (.string q)):=Hd fun wx hx=>cell_stays hx hcq
        have HCN:Hid (∀ wx,Below wr.heap.size wr wx→wx.cell? ⟨b,o+i*2,none⟩=some (.string nm)):=Hd fun wx hx=>cell_stays hx z0
        clear hq hcq0
        by_cases hqn:q=nm
        ·have e13:(q.toList == nm.toList)=true:=by rw[eqT];exact decide_eq_true hqn
         have HF:=Hd (HNO.out (by rw[HOK.out,any_some hkl hki ((HQ.out hkl).symm.trans hqn),Bool.not_true,Bool.and_false]))
         clear hqn hk
         go_wp2_with fail
         refine wp_region_held_drew (S:=(fun w'=>w'.cell? ⟨b,o+k*2,none⟩=some (.string q)∧w'.cell? ⟨b,o+i*2,none⟩=some (.string nm))) (by kernel_rfl) ⟨HCQ.out _ (Below.refl _ _).drew,HCN.out _ (Below.refl _ _).drew⟩ (fun hHeld=>?_)
         refine Plan.start [0,1,2,3,4,5,6,7,8,9,10] ?_
         iterate 11 ((refine Plan.take (v:=?_) (so rfl) (by kernel_rfl) (by kernel_rfl) (by kernel_rfl) (fun _ _ _ h=>h) (Or.inl ⟨by rfl,?_⟩) hHeld ?_;rotate_left;focus (intro w' hSw;(try dsimp only at hSw);obtain⟨hS1,hS2⟩:=hSw;go_simp;try with_reducible rfl));try simp only[Act.put,pz1,pz2,pz3])
         refine Plan.done ?_
         refine wpAnyH_done (by kernel_rfl) ?_ _
         clear hHeld
         go_wp2_with fail
         go_ret
         exact⟨by rw[HF.out];rfl,HB4.out.drew⟩
        ·have e13:(q.toList == nm.toList)=false:=by rw[eqT];exact decide_eq_false hqn
         have HNE2:Hid (∀ j (hj:j<l.length),j<k+1→l[j].1≠nm):=Hd fun j hj hjk=>by
          rcases Nat.lt_or_ge j k with h1 | h1
          ·exact HNE.out j hj h1
          ·have:j=k:=by omega
           subst this
           rw[←HQ.out hj];exact hqn
         clear hqn hk
         go_wp2_with fail
         refine wp_region_held_drew (S:=(fun w'=>w'.cell? ⟨b,o+k*2,none⟩=some (.string q)∧w'.cell? ⟨b,o+i*2,none⟩=some (.string nm))) (by kernel_rfl) ⟨HCQ.out _ (Below.refl _ _).drew,HCN.out _ (Below.refl _ _).drew⟩ (fun hHeld=>?_)
         refine Plan.start [0,1,2,3,4,5,6,7,8,9,10] ?_
         iterate 11 ((refine Plan.take (v:=?_) (so rfl) (by kernel_rfl) (by kernel_rfl) (by kernel_rfl) (fun _ _ _ h=>h) (Or.inl ⟨by rfl,?_⟩) hHeld ?_;rotate_left;focus (intro w' hSw;(try dsimp only at hSw);obtain⟨hS1,hS2⟩:=hSw;go_simp;try with_reducible rfl));try simp only[Act.put,pz1,pz2,pz3])
         refine Plan.done ?_
         refine wpAnyH_done (by kernel_rfl) ?_ _
         clear hHeld
         go_wp2_with fail
         refine⟨⟨k+1,HKI.out,by first | rfl | rw[wr3],HNE2.out,HBX.out.drew⟩,?_⟩
         first | exact HM3.out | (rw[wr3];exact HM3.out)
       ·have t3:decide ((k:Int)<(i:Int))=false:=by simp;omega
        have t4:decide (k<i)=false:=decide_eq_false hki
        have HOK2:Hid (∀ j,j<i+1→okV (varsT l formT) j=true):=Hd fun j hj=>by
         rcases Nat.lt_or_ge j i with h1 | h1
         ·exact HE.out j h1
         ·have:j=i:=by omega
          subst this
          rw[HOK.out,HN.out,HLe.out,HAL.out,any_none fun a ha hai=>HNE.out a ha (by omega)]
          rfl
        clear hk
        go_wp2_with fail
        refine⟨⟨i+1,HIn.out,by first | rfl | rw[wr2],HOK2.out,HB4.out⟩,?_⟩
        first | exact HM.out | (rw[wr2];exact HM.out)
  ·have t1:decide ((i:Int)<(l.length:Int))=false:=by simp;omega
   have HT1:Hid (varsB (varsT l formT)=true):=Hd (by unfold varsB;rw[range_all];exact fun j hj=>HE.out j (by rw[varsT_len] at hj;omega))
   clear hi
   go_wp2_with fail
   go_ret
   exact⟨by rw[HT1.out];rfl,HB.out⟩
def GatP (f:Nat) (L:List (ByteArray×Ty)) (p t:Ty):Prop:=∀ (K K':Nat→Prop) (w0 w:World) (m:Nat) (F:ByteArray→Option Rw) (G:List (ByteArray×Ty)) (b o b' o':Nat),AtT K w t b o→AtT K' w p b' o'→(∀ x,K x∨x=b→x<w.heap.size∧¬ rowB m F x)→(∀ x,K' x∨x=b'→x<w.heap.size∧¬ rowB m F x)→GI w0 w m F G→w0.heap.size≤w.heap.size →
 formT p=true→formT t=true→cntT p+cntT t≤1000000→G.length+L.length≤1000000000 →
 Calls Tryz.prog f #[.map (some m),.pointer (some ⟨b,o,none⟩),.pointer (some ⟨b',o',none⟩)] w (HoldPost w0 w m F (G++L))
def HoldP (p t:Ty):Prop:=GatP 92 (gathT p t) p t
theorem gathT_infer {p t:Ty} (h:p.k=22) (hi:infT p=true):gathT p t=[(p.t,t)]:=by rw[gathT_eq,if_neg (by rw[hi];decide),if_pos h]
theorem but_cell {O:Nat→Prop} {w w':World} {b o:Nat} {v:Value} (hb:ButG O w w') (hn:¬ O b) (h:w.cell? ⟨b,o,none⟩=some v):w'.cell? ⟨b,o,none⟩=some v:=hb.cell hn h
theorem own_rw {w:World} {base:Nat} {e:TypeId} {size n:Nat} {v:Value} {xs:List Value} (h:w.ownsRow base e size v n xs):∃ a,v=rwV a:=by
 rcases h.2 with ⟨rfl,_⟩ | ⟨g,cap,cur,rfl,_⟩
 ·exact⟨(none,0,0),rfl⟩
 ·exact⟨(some g,n,cap),rfl⟩
theorem own_later {w w':World} {base:Nat} {e:TypeId} {size n:Nat} {v:Value} {xs:List Value} (h:w.ownsRow base e size v n xs) (hb:Below w.heap.size w w'):w'.ownsRow base e size v n xs:=by
 refine⟨h.1,?_⟩
 rcases h.2 with h3 | ⟨g,cap,cur,hv,hg,hh,r⟩
 ·exact .inl h3
 ·exact .inr ⟨g,cap,cur,hv,hg,by rw[hb.block g (Array.getElem?_eq_some_iff.1 hh).1];exact hh,r⟩
theorem add_zero' (b j:Nat):((⟨b,0,none⟩:Addr).add j)=⟨b,j,none⟩:=by unfold Addr.add;by_cases h0:j=0 <;> simp[h0]
theorem row_cell {w:World} {g:Nat} {T:TypeId} {cs:Array Value} (h:w.heap[g]?=some (.cells cs T (0,0))) {j:Nat} {u:Value} (hj:cs.toList[j]?=some u):w.cell? ⟨g,j,none⟩=some u:=by
 rw[Ch h j]
 simpa using hj
theorem rw_own (a:Rw):(rwV a).ownBlock=a.1:=by obtain⟨_ | b,n,c⟩:=a <;> rfl
theorem row_own {m:Nat} {F:ByteArray→Option Rw} {s:ByteArray} {rv:Value} {B:Nat} (h:rwV (rowOf F s)=rv):∀ k,rv.ownBlock=some k→rowB m F k∨B≤k:=fun k hk=>by
 rw[←h,rw_own] at hk
 exact .inl (.inr ⟨s,hk⟩)
theorem map_block {w0 w w1 w2:World} {m:Nat} {F:ByteArray→Option Rw} {G:List (ByteArray×Ty)} {s:ByteArray} {rv:Value} (hG:GI w0 w m F G) (hu:ButG (rowB m F) w w1) (h1:w1.heap[m]?=w.heap[m]?) (hg:w1.grownBy w2 rv.ownBlock) (h:rwV (rowOf F s)=rv):w2.heap[m]?=w.heap[m]?:=
 (hg.block m (Nat.lt_of_lt_of_le hG.map.lt hu.size) (fun e=>by rw[←h,rw_own] at e;exact hG.ne s e.symm)).trans h1
theorem hold_infer {p t:Ty} (hk:p.k=22):HoldP p t:=by
 intro K K' w0 w m F G b o b' o' hT hP hKT hKP hG hB _ _ _ hlen
 obtain⟨k,s,n,ps,fs,vs⟩:=p
 obtain rfl:k=22:=hk
 have hinf:infT (.mk 22 s n ps fs vs)=true:=by rw[infT_mk];rfl
 have hga:gathT (.mk 22 s n ps fs vs) t=[(s,t)]:=gathT_infer rfl hinf
 rw[hga] at hlen ⊢
 have ki:=inf_any _ K' w b' o' hP
 rw[hinf] at ki
 obtain⟨A,c,A',c',A'',c'',⟨x0,x1,-⟩,hs,-⟩:=hP.six
 obtain⟨cs,hcs,hrt⟩:=hT
 obtain⟨vs0,hown0,hvr⟩:=hG.rows s
 obtain⟨k2,s2,n2,ps2,fs2,vs2⟩:=t
 obtain⟨A2,c2,B2,d2,C2,e2,rfl,-⟩:=hrt.inv
 simp only[cells6T] at hcs hrt
 have HRT:=Hd (hrt.weak (K':=fun x=>x<w.heap.size∧¬ rowB m F x) fun x hx=>hKT x (.inl hx))
 have hnb:=(hKT b (.inr rfl)).2
 have hnb':=(hKP b' (.inr rfl)).2
 have HSW:Hid (∀ wx,ButG (rowB m F) w wx→(wx.cell? ⟨b',o',none⟩=some (.int .i64 22)∧wx.cell? ⟨b',o'+1,none⟩=some (.string s))∧(wx.cell? ⟨b,o,none⟩=some (.int .i64 k2)∧wx.cell? ⟨b,o+1,none⟩=some (.string s2)∧wx.cell? ⟨b,o+2,none⟩=some (.int .i64 n2)∧wx.cell? ⟨b,o+3,none⟩=some (.slice A2 ps2.length c2)∧wx.cell? ⟨b,o+4,none⟩=some (.slice B2 fs2.length d2)∧wx.cell? ⟨b,o+5,none⟩=some (.slice C2 vs2.length e2))):=Hd fun wx hx=>
  ⟨⟨but_cell hx hnb' x0,but_cell hx hnb' x1⟩,but_cell hx hnb (hcs 0 _ rfl),but_cell hx hnb (hcs 1 _ rfl),but_cell hx hnb (hcs 2 _ rfl),but_cell hx hnb (hcs 3 _ rfl),but_cell hx hnb (hcs 4 _ rfl),but_cell hx hnb (hcs 5 _ rfl)⟩
 have hsm:s.size≤maxLen:=by unfold maxLen;omega
 have HLK:Hid (∀ wx,wx.heap[m]?=w.heap[m]?→(Instr.lookup 135 (.map (some m)) (.string s) false).run Tryz.prog wx=.ok (rwV (rowOf F s)) wx):=Hd fun wx hx=>(hG.map.keep hx).look1 s hsm
 have KI:=Hd ki
 have HG:=Hd hG
 have HB:=Hd hB
 have HOWN:=Hd hown0
 have HVR:=Hd hvr
 have HSM:=Hd hsm
 have hgl:(gatN s G).length≤G.length:=by unfold gatN;rw[List.length_map];exact List.length_filter_le _ _
 have HLEN:Hid (G.length+1≤1000000000):=Hd hlen
 have HGL:=Hd hgl
 generalize hrv:rwV (rowOf F s)=rv at HLK HOWN
 have HRV:=Hd hrv
 have HM:Hid (m<w.heap.size):=Hd hG.map.lt
 clear hP hKT hKP hG hB hlen hga ki hs hcs hrt hown0 hvr hnb hnb' hsm hgl hrv hinf x1
 go_enter Tryz.func92,Tryz.ntmps92
 go_wp2_with fail
 refine KI.out.mono ?_
 rintro e w' ⟨rfl,hw⟩;obtain rfl:=hw.symm
 go_upto_region 3 with fail
 clear x0
 obtain⟨i0,hi0,hz0,hz1,hz2⟩:=partsT infoTy
 have HB0:Hid (Below w.heap.size w w.drew):=Hd (Below.refl _ _).drew
 have HU0:Hid (ButG (rowB m F) w w.drew):=Hd (ButG.of_below (Below.refl _ _).drew)
 have HM0:Hid (w.drew.heap[m]?=w.heap[m]?):=Hd rfl
 refine wp_region_held_drew (S:=(fun w'=>(w'.cell? ⟨b',o',none⟩=some (.int .i64 22)∧w'.cell? ⟨b',o'+1,none⟩=some (.string s))∧(w'.cell? ⟨b,o,none⟩=some (.int .i64 k2)∧w'.cell? ⟨b,o+1,none⟩=some (.string s2)∧w'.cell? ⟨b,o+2,none⟩=some (.int .i64 n2)∧w'.cell? ⟨b,o+3,none⟩=some (.slice A2 ps2.length c2)∧w'.cell? ⟨b,o+4,none⟩=some (.slice B2 fs2.length d2)∧w'.cell? ⟨b,o+5,none⟩=some (.slice C2 vs2.length e2)))) (by kernel_rfl) (HSW.out _ HU0.out) (fun hHeld=>?_)
 refine Plan.start [0,1,2,3,4,5,6,7,8,9,11,12,13] ?_
 iterate 13 (refine Plan.tk (so rfl) hHeld ?_;try simp only[Act.put,pz1,pz2,pz3])
 refine Plan.done ?_
 refine wpAnyH_ready (rs:=[10,14]) (by kernel_rfl) (by simp) ?_
 refine AllReadyH.cons (sd (some 27) rfl) (fun Kx hK=>?_) (AllReadyH.cons (sd (some 31) rfl) (fun Kx hK=>?_) AllReadyH.nil)
 ·go_simp
  have lk:=HLK.out w.drew HM0.out
  go_simp
  clear lk
  refine hK.out _ _ (HSW.out _ HU0.out) (fun hHeld=>?_)
  clear hK Kx
  try simp only[Act.put,pz1,pz2,pz3]
  refine wpAnyH_ready (rs:=[14]) (by kernel_rfl) (by simp) ?_
  refine AllReadyH.cons (sd (some 31) rfl) (fun Kx hK=>?_) AllReadyH.nil
  go_simp
  generalize hW:(w.alloc (.cells #[.int .i64 k2,.string s2,.int .i64 n2,.slice A2 ps2.length c2,.slice B2 fs2.length d2,.slice C2 vs2.length e2] 26)).drew=w1
  have hb:Below w.heap.size w w1:=by rw[←hW];exact ((Below.refl _ _).alloc (Nat.le_refl _) _).drew
  have rs:w1.heap[w.heap.size]?=some (.cells #[.int .i64 k2,.string s2,.int .i64 n2,.slice A2 ps2.length c2,.slice B2 fs2.length d2,.slice C2 vs2.length e2] 26 (0,0)):=by rw[←hW];exact heap_alloc_new w _
  have HB1:=Hd hb
  have HU1:=Hd (ButG.of_below (O:=rowB m F) hb)
  have HM1:=Hd (hb.block m HM.out)
  have HX:=Hd rs
  clear hW hb rs
  refine hK.out _ _ (HSW.out _ HU1.out) (fun hHeld=>?_)
  clear hK Kx
  try simp only[Act.put,pz1,pz2,pz3]
  refine wpAnyH_ready (rs:=[15]) (by kernel_rfl) (by simp) ?_
  refine AllReadyH.cons (sd (some 32) rfl) (fun Kx hK=>?_) AllReadyH.nil
  rw[if_pos (by rfl)]
  refine wp_append_own_at _ _ 22 rfl w0.heap.size 26 i0 _ 6 104 sliceTy hi0 hz0 hz1 hz2 (by decide) (by decide) _ _ _ rfl (own_later HOWN.out HB1.out) ⟨_,0,none⟩ 1 1 [.int .i64 k2,.string s2,.int .i64 n2,.slice A2 ps2.length c2,.slice B2 fs2.length d2,.slice C2 vs2.length e2] rfl rfl ?_ ?_ ?_ ?_ (Nat.le_trans HB.out HB1.out.size) ?_
  ·intro j u hj
   rw[add_zero']
   exact row_cell HX.out hj
  ·exact one_cells HRT.out
  ·have h1:=HLEN.out;have h2:=HGL.out;simp only[maxLen];omega
  ·have h1:=HLEN.out;have h2:=HGL.out;omega
  intro v2 w2 hown5 hg5 _ hob5
  obtain⟨a5,ha5⟩:=own_rw hown5
  subst ha5
  have HOW5:=Hd hown5
  have HG5:=Hd hg5
  have HOB5:=Hd hob5
  have HU2:=Hd (ButG.grown HU1.out hg5 (row_own HRV.out))
  clear hown5 hg5 hob5
  refine hK.out _ _ (HSW.out _ HU2.out) (fun hHeld=>?_)
  clear hK Kx
  try simp only[Act.put,pz1,pz2,pz3]
  refine wpAnyH_ready (rs:=[16]) (by kernel_rfl) (by simp) ?_
  refine AllReadyH.cons (sd none rfl) (fun Kx hK=>?_) AllReadyH.nil
  go_simp
  obtain⟨w3,hup,hm5,hg6⟩:=(HG.out.map.keep (map_block HG.out HU1.out HM1.out HG5.out HRV.out)).putL (by have h:=HLEN.out;unfold maxLen;omega) s HSM.out a5
  have hup2:(Instr.mapUpdate 135 (.map (some m)) (.string s) (rwV a5)).run Tryz.prog w2=.ok () w3:=hup
  have HPU:=Hd (gi_push HG.out HB.out HB1.out HRT.out HOWN.out.1 HVR.out HOW5.out (by rw[HRV.out];exact HG5.out) (by rw[HRV.out];exact HOB5.out) rfl hm5 rfl hg6)
  have HU3:=Hd HPU.out.2.1
  clear hup hm5 hg6
  go_simp
  clear hup2
  refine hK.out _ _ (HSW.out _ HU3.out) (fun hHeld=>?_)
  clear hK Kx
  try simp only[Act.put,pz1,pz2,pz3]
  refine wpAnyH_done (by kernel_rfl) ?_ _
  clear hHeld
  go_wp2_with fail
  exact bodyPost_end (v:=.tuple #[]) (by simp[results,Tryz.results92,go_sem]) rfl ⟨rfl,_,HPU.out⟩
 ·go_simp
  generalize hW:(w.alloc (.cells #[.int .i64 k2,.string s2,.int .i64 n2,.slice A2 ps2.length c2,.slice B2 fs2.length d2,.slice C2 vs2.length e2] 26)).drew=w1
  have hb:Below w.heap.size w w1:=by rw[←hW];exact ((Below.refl _ _).alloc (Nat.le_refl _) _).drew
  have rs:w1.heap[w.heap.size]?=some (.cells #[.int .i64 k2,.string s2,.int .i64 n2,.slice A2 ps2.length c2,.slice B2 fs2.length d2,.slice C2 vs2.length e2] 26 (0,0)):=by rw[←hW];exact heap_alloc_new w _
  have HB1:=Hd hb
  have HU1:=Hd (ButG.of_below (O:=rowB m F) hb)
  have HM1:=Hd (hb.block m HM.out)
  have HX:=Hd rs
  clear hW hb rs
  refine hK.out _ _ (HSW.out _ HU1.out) (fun hHeld=>?_)
  clear hK Kx
  try simp only[Act.put,pz1,pz2,pz3]
  refine wpAnyH_ready (rs:=[10]) (by kernel_rfl) (by simp) ?_
  refine AllReadyH.cons (sd (some 27) rfl) (fun Kx hK=>?_) AllReadyH.nil
  go_simp
  have lk:=HLK.out w1 HM1.out
  go_simp
  clear lk
  refine hK.out _ _ (HSW.out _ HU1.out) (fun hHeld=>?_)
  clear hK Kx
  try simp only[Act.put,pz1,pz2,pz3]
  refine wpAnyH_ready (rs:=[15]) (by kernel_rfl) (by simp) ?_
  refine AllReadyH.cons (sd (some 32) rfl) (fun Kx hK=>?_) AllReadyH.nil
  rw[if_pos (by rfl)]
  refine wp_append_own_at _ _ 22 rfl w0.heap.size 26 i0 _ 6 104 sliceTy hi0 hz0 hz1 hz2 (by decide) (by decide) _ _ _ rfl (own_later HOWN.out HB1.out) ⟨_,0,none⟩ 1 1 [.int .i64 k2,.string s2,.int .i64 n2,.slice A2 ps2.length c2,.slice B2 fs2.length d2,.slice C2 vs2.length e2] rfl rfl ?_ ?_ ?_ ?_ (Nat.le_trans HB.out HB1.out.size) ?_
  ·intro j u hj
   rw[add_zero']
   exact row_cell HX.out hj
  ·exact one_cells HRT.out
  ·have h1:=HLEN.out;have h2:=HGL.out;simp only[maxLen];omega
  ·have h1:=HLEN.out;have h2:=HGL.out;omega
  intro v2 w2 hown5 hg5 _ hob5
  obtain⟨a5,ha5⟩:=own_rw hown5
  subst ha5
  have HOW5:=Hd hown5
  have HG5:=Hd hg5
  have HOB5:=Hd hob5
  have HU2:=Hd (ButG.grown HU1.out hg5 (row_own HRV.out))
  clear hown5 hg5 hob5
  refine hK.out _ _ (HSW.out _ HU2.out) (fun hHeld=>?_)
  clear hK Kx
  try simp only[Act.put,pz1,pz2,pz3]
  refine wpAnyH_ready (rs:=[16]) (by kernel_rfl) (by simp) ?_
  refine AllReadyH.cons (sd none rfl) (fun Kx hK=>?_) AllReadyH.nil
  go_simp
  obtain⟨w3,hup,hm5,hg6⟩:=(HG.out.map.keep (map_block HG.out HU1.out HM1.out HG5.out HRV.out)).putL (by have h:=HLEN.out;unfold maxLen;omega) s HSM.out a5
  have hup2:(Instr.mapUpdate 135 (.map (some m)) (.string s) (rwV a5)).run Tryz.prog w2=.ok () w3:=hup
  have HPU:=Hd (gi_push HG.out HB.out HB1.out HRT.out HOWN.out.1 HVR.out HOW5.out (by rw[HRV.out];exact HG5.out) (by rw[HRV.out];exact HOB5.out) rfl hm5 rfl hg6)
  have HU3:=Hd HPU.out.2.1
  clear hup hm5 hg6
  go_simp
  clear hup2
  refine hK.out _ _ (HSW.out _ HU3.out) (fun hHeld=>?_)
  clear hK Kx
  try simp only[Act.put,pz1,pz2,pz3]
  refine wpAnyH_done (by kernel_rfl) ?_ _
  clear hHeld
  go_wp2_with fail
  exact bodyPost_end (v:=.tuple #[]) (by simp[results,Tryz.results92,go_sem]) rfl ⟨rfl,_,HPU.out⟩
theorem parts1_no (t:Ty):∀ x∈parts1 t,x.k≠15:=by
 refine Ty.ind (C:=fun t=>∀ x∈parts1 t,x.k≠15) (fun k t n ps fs vs hp _ _ x hx=>?_) t
 rw[parts1_mk] at hx
 by_cases h:k=15
 ·rw[if_pos h] at hx
  unfold flatU at hx
  rw[List.mem_flatten] at hx
  obtain⟨l,hl,hx⟩:=hx
  obtain⟨p,hm,rfl⟩:=List.mem_map.1 hl
  exact hp p hm x hx
 ·rw[if_neg h,List.mem_singleton] at hx
  subst hx
  exact h
theorem flatU_no {l:List Ty} {x:Ty} (h:x∈flatU l):x.k≠15:=by
 unfold flatU at h
 rw[List.mem_flatten] at h
 obtain⟨m,hm,hx⟩:=h
 obtain⟨p,-,rfl⟩:=List.mem_map.1 hm
 exact parts1_no p x hx
theorem flatU_self:∀ {l:List Ty},(∀ x∈l,x.k≠15)→flatU l=l
 | [],_=>rfl
 | a :: l,h=>by
  obtain⟨k,t,n,ps,fs,vs⟩:=a
  have hk:¬ k=15:=h _ List.mem_cons_self
  rw[flatU_cons,parts1_mk,if_neg hk,flatU_self fun x hx=>h x (List.mem_cons_of_mem _ hx)]
  rfl
theorem asc_adj:∀ {l:List Ty},(∀ i (h:i+1<l.length),ordT (l[i]'(by omega)) l[i+1] = -1)→Asc l
 | [],_=>List.Pairwise.nil
 | [a],_=>List.pairwise_singleton _ _
 | a :: b :: l,h=>by
  have ih:Asc (b :: l):=asc_adj fun i hi=>h (i+1) (by simp at hi ⊢;omega)
  refine List.pairwise_cons.2 ⟨fun x hx=>?_,ih⟩
  have h0:ordT a b = -1:=h 0 (by simp)
  rcases List.mem_cons.1 hx with rfl | hx
  ·exact h0
  ·exact ordT_trans h0 (List.rel_of_pairwise_cons ih hx)
theorem isUB_self {ps:List Ty} (h2:2≤ps.length):isUB ps=true↔unionT ps=.mk 15 emptyB 0 ps [] []:=by
 unfold isUB
 rw[Bool.and_eq_true,range_all,List.all_eq_true]
 constructor
 ·rintro⟨h,hk⟩
  have hno:∀ x∈ps,x.k≠15:=fun x hx e=>by
   obtain⟨i,hi,rfl⟩:=List.getElem_of_mem hx
   have:=h i hi
   unfold okU at this
   rw[List.getElem?_eq_getElem hi] at this
   simp[e] at this
  have hA:Asc ps:=asc_adj fun i hi=>by
   have:=h (i+1) hi
   unfold okU at this
   rw[List.getElem?_eq_getElem hi] at this
   simp only[List.getElem?_eq_getElem (show i<ps.length by omega),Bool.and_eq_true,decide_eq_true_eq] at this
   rcases ordT_bd (ps[i]'(by omega)) ps[i+1] with e | e | e
   ·exact e
   ·have h3:=this.2;rw[e] at h3;omega
   ·have h3:=this.2;rw[e] at h3;omega
  have hf:=flatU_self hno
  have hkp:keptU ps=ps:=by
   unfold keptU
   rw[hf,List.filter_eq_self]
   exact hk
  unfold unionT
  rw[hkp,sortT_self hA]
  rcases ps with _ | ⟨x,_ | ⟨y,l⟩⟩
  ·simp at h2
  ·simp at h2
  ·rfl
 ·intro h
  unfold unionT at h
  have hL:sortT (keptU ps)=ps:=by
   generalize hs:sortT (keptU ps)=L at h
   rcases L with _ | ⟨x,_ | ⟨y,l⟩⟩
   ·have:=congrArg Ty.k h;exact absurd this (by show ¬ ((1:Int)=15);decide)
   ·have hx:x∈keptU ps:=(mem_sortT x _).1 (by rw[hs];exact List.mem_cons_self)
    unfold keptU at hx
    have h15:=flatU_no (List.mem_filter.1 hx).1
    have e:x=.mk 15 emptyB 0 ps [] []:=h
    rw[e] at h15
    exact absurd rfl h15
   ·have e:Ty.mk 15 emptyB 0 (x :: y :: l) [] []=.mk 15 emptyB 0 ps [] []:=h
    injection e with _ _ _ e
  have hmem:∀ x∈ps,x∈keptU ps:=fun x hx=>(mem_sortT x _).1 (by rw[hL];exact hx)
  have hno:∀ x∈ps,x.k≠15:=fun x hx=>flatU_no (List.mem_filter.1 (hmem x hx)).1
  have hf:=flatU_self hno
  have hA:Asc ps:=by rw[←hL];exact asc_sortT _
  refine⟨fun i hi=>?_,fun x hx=>?_⟩
  ·unfold okU
   rw[List.getElem?_eq_getElem hi]
   have h15:=hno _ (List.getElem_mem hi)
   rcases i with _ | i
   ·simpa using h15
   ·have:=List.pairwise_iff_getElem.1 hA i (i+1) (by omega) hi (by omega)
    simp only[List.getElem?_eq_getElem (show i<ps.length by omega),this]
    simpa using h15
  ·have h3:=(List.mem_filter.1 (hmem x hx)).2
   rw[hf] at h3
   exact h3
end Go.Proofs.YtlpfpehegddcfaaGreatDoor
