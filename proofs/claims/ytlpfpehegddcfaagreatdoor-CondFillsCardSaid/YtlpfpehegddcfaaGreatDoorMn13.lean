import Derived.Test.YtlpfpehegddcfaaGreatDoorMn11
namespace Go.Proofs.YtlpfpehegddcfaaGreatDoor
set_option maxRecDepth 100000
set_option maxHeartbeats 64000000
open Go.RowKit
theorem vars_ref (l l':VsT) (h:∀ v∈l,∀ b∈v.2,OrdR b) {K K':Nat→Prop} {w:World} {A A':Option Addr} {c c':Nat} (h1:ListV K w l A c) (h2:ListV K' w l' A' c') :
  Calls Tryz.prog 47 #[.slice A l.length c,.slice A' l'.length c'] w fun e w'=>e=.returned (.int .i64 (lexC (rowE (fun v:ByteArray×List Ty=>Tok.s v.1 :: flatL v.2) l) (rowE (fun v:ByteArray×List Ty=>Tok.s v.1 :: flatL v.2) l')))∧Gw w w':=by
 have H1:=Hd h1
 have H2:=Hd h2
 have HI:=Hd h
 have hl1:l.length≤1000000000000000:=by obtain⟨_,_,hr,_⟩:=h1;exact hr.big
 have hl2:l'.length≤1000000000000000:=by obtain⟨_,_,hr,_⟩:=h2;exact hr.big
 clear h h1 h2
 by_cases heq:l.length=l'.length
 ·rw[row_same (fun v:ByteArray×List Ty=>Tok.s v.1 :: flatL v.2) heq]
  generalize hres:restC (fun v:ByteArray×List Ty=>Tok.s v.1 :: flatL v.2) l l' 0=res
  have HRES:=Hd hres
  have HEQ:=Hd heq
  rw[←heq]
  have hirr:¬ l.length<l.length:=Nat.lt_irrefl _
  clear hres heq hl2
  go_enter Tryz.func47,Tryz.ntmps47
  go_wp2_with fail
  refine (sign_any _ _ _).mono ?_
  rintro e w1 ⟨rfl,rfl⟩
  simp only[sgn]
  go_wp2_with fail
  go_loopw [5,6] (fun vc vi wr=>∃ (cc:Int) (i:Nat),i≤l.length∧vc=.int .i64 cc∧vi=.int .i64 i∧or2 cc (restC (fun v:ByteArray×List Ty=>Tok.s v.1 :: flatL v.2) l l' i)=res∧Gw w1 wr) (fun _ vi _=>l.length - (intOf vi).toNat)
  case atStart=>exact⟨0,0,by omega,by first | rfl | simp,rfl,by rw[or2_zero];exact HRES.out,Gw.refl _⟩
  case round=>
   obtain⟨cc,i,hi,rfl,rfl,ho,hb⟩:=hrel
   have HO:=Hd ho
   have HB:=Hd hb
   clear ho
   by_cases hcc:cc=0
   ·subst hcc
    by_cases hin:i<l.length
    ·have t1:decide ((i:Int)<(l.length:Int))=true:=by simp;omega
     have wr2:wrap64 ((i:Int)+1)=((i+1:Nat):Int):=wrap_one (by omega)
     have HM:=Hd (measI hin)
     have hin':i<l'.length:=by rw[←HEQ.out];exact hin
     have hstep:=rest_step (fun v:ByteArray×List Ty=>Tok.s v.1 :: flatL v.2) cleanVr HEQ.out hin hin'
     have hval:or2 (lexC ((fun v:ByteArray×List Ty=>Tok.s v.1 :: flatL v.2) l[i]) ((fun v:ByteArray×List Ty=>Tok.s v.1 :: flatL v.2) l'[i])) (restC (fun v:ByteArray×List Ty=>Tok.s v.1 :: flatL v.2) l l' (i+1))=res:=by rw[←hstep,←or2_zero (restC (fun v:ByteArray×List Ty=>Tok.s v.1 :: flatL v.2) l l' i)];exact HO.out
     obtain⟨b,o,hA,_,hat⟩:=H1.out.at (by omega)
     obtain⟨b',o',hA',_,hat'⟩:=H2.out.at (by omega)
     subst hA hA'
     have i0:(0:Int)≤(i:Int):=by omega
     have i1:(i:Int)<(l.length:Int):=by omega
     clear hstep
     have HLE:Hid (i+1≤l.length):=Hd hin
     obtain⟨B,d,hn,hf,-,hT⟩:=hat i hin
     obtain⟨B',d',hn',hf',-,hT'⟩:=hat' i hin'
     replace hn:=cell_stays (w:=w1) (w':=wr) hb.below hn
     replace hn':=cell_stays (w:=w1) (w':=wr) hb.below hn'
     replace hf:=cell_stays (w:=w1) (w':=wr) hb.below hf
     replace hf':=cell_stays (w:=w1) (w':=wr) hb.below hf'
     replace hT:=hT.later (w':=wr) hb.below
     replace hT':=hT'.later (w':=wr) hb.below
     have hbo:=HI.out _ (List.getElem_mem hin)
     have hval2:or2 (or2 (cmpB (l[i]'hin).1 (l'[i]'hin').1) (lexC (flatL (l[i]'hin).2) (flatL (l'[i]'hin').2))) (restC (fun v:ByteArray×List Ty=>Tok.s v.1 :: flatL v.2) l l' (i+1))=res:=by rw[←var_steps];exact hval
     generalize hnm:(l[i]'hin).1=nm at hn hval2
     generalize hnm':(l'[i]'hin').1=nm' at hn' hval2
     generalize hfl:(l[i]'hin).2=bl at hf hval2 hT hbo
     generalize hfl':(l'[i]'hin').2=bl' at hf' hval2 hT'
     have KO:Hid (∀ wx,Below wr.heap.size wr wx→Calls Tryz.prog 45 #[.slice B bl.length d,.slice B' bl'.length d'] wx fun e w'=>e=.returned (.int .i64 (lexC (flatL bl) (flatL bl')))∧Gw wx w'):=Hd fun wx hx=>list_ref bl bl' hbo (hT.later hx) (hT'.later hx)
     generalize lexC (flatL bl) (flatL bl')=oo at KO hval2
     have HC:Hid (∀ wx,Below wr.heap.size wr wx→(wx.cell? ⟨b,o+i*2,none⟩=some (.string nm)∧wx.cell? ⟨b',o'+i*2,none⟩=some (.string nm'))∧wx.cell? ⟨b,o+i*2+1,none⟩=some (.slice B bl.length d)∧wx.cell? ⟨b',o'+i*2+1,none⟩=some (.slice B' bl'.length d')):=Hd fun wx hx=>⟨⟨cell_stays hx hn,cell_stays hx hn'⟩,cell_stays hx hf,cell_stays hx hf'⟩
     have HV:=Hd hval2
     clear hat hat' hval hval2 hi hb hn hn' hf hf' hnm hnm' hfl hfl' hT hT' hbo
     rcases cmpB_cases nm nm' with ⟨ga,gb,ge⟩ | ⟨ga,gb,ge⟩ | ⟨ga,gb,ge⟩
     ·have HV2:Hid (or2 (-1) (restC (fun v:ByteArray×List Ty=>Tok.s v.1 :: flatL v.2) l l' (i+1))=res):=Hd (by have h:=HV.out;rw[ge,or2_ne (a:=-1) (by decide)] at h;exact h)
      clear ge
      go_wp2_with fail
      refine wp_region_held_drew (S:=(fun w'=>(w'.cell? ⟨b,o+i*2,none⟩=some (.string nm)∧w'.cell? ⟨b',o'+i*2,none⟩=some (.string nm'))∧w'.cell? ⟨b,o+i*2+1,none⟩=some (.slice B bl.length d)∧w'.cell? ⟨b',o'+i*2+1,none⟩=some (.slice B' bl'.length d'))) (by kernel_rfl) (HC.out _ (Below.refl wr.heap.size wr).drew) (fun hHeld=>?_)
      refine Plan.start [0,1,2,3,4,5,6,7,8,9,10,11,12,13,14,15,16,17,18,19,20,21] ?_
      iterate 22 (refine Plan.tk (so rfl) hHeld ?_;try simp only[Act.put,pz1,pz2,pz3])
      refine Plan.done ?_
      refine wpAnyH_ready (rs:=[22]) (by kernel_rfl) (by simp) ?_
      refine AllReadyH.cons (sd (some 50) rfl) (fun K hK=>?_) AllReadyH.nil
      go_simp
      refine (sign_any _ _ _).mono ?_
      rintro e w2 ⟨rfl,rfl⟩
      simp only[sgn]
      go_wp2_with fail
      refine hK.out _ _ (HC.out _ (Below.refl wr.heap.size wr).drew) (fun hHeld=>?_)
      clear hK K
      try simp only[Act.put,pz1,pz2,pz3]
      refine Plan.start [23] ?_
      refine Plan.tk (so rfl) hHeld ?_
      try simp only[Act.put,pz1,pz2,pz3]
      refine Plan.done ?_
      refine wpAnyH_done (by kernel_rfl) ?_ _
      clear hHeld
      clear i0 i1 t1 ga gb
      go_wp2_with fail
      refine⟨⟨(-1),i+1,HLE.out,by first | rfl | trivial,by first | rfl | rw[wr2],HV2.out,HB.out.drew⟩,?_⟩
      first | exact HM.out | (rw[wr2];exact HM.out)
     ·have HV2:Hid (or2 1 (restC (fun v:ByteArray×List Ty=>Tok.s v.1 :: flatL v.2) l l' (i+1))=res):=Hd (by have h:=HV.out;rw[ge,or2_ne (a:=1) (by decide)] at h;exact h)
      clear ge
      go_wp2_with fail
      refine wp_region_held_drew (S:=(fun w'=>(w'.cell? ⟨b,o+i*2,none⟩=some (.string nm)∧w'.cell? ⟨b',o'+i*2,none⟩=some (.string nm'))∧w'.cell? ⟨b,o+i*2+1,none⟩=some (.slice B bl.length d)∧w'.cell? ⟨b',o'+i*2+1,none⟩=some (.slice B' bl'.length d'))) (by kernel_rfl) (HC.out _ (Below.refl wr.heap.size wr).drew) (fun hHeld=>?_)
      refine Plan.start [0,1,2,3,4,5,6,7,8,9,10,11,12,13,14,15,16,17,18,19,20,21] ?_
      iterate 22 (refine Plan.tk (so rfl) hHeld ?_;try simp only[Act.put,pz1,pz2,pz3])
      refine Plan.done ?_
      refine wpAnyH_ready (rs:=[22]) (by kernel_rfl) (by simp) ?_
      refine AllReadyH.cons (sd (some 50) rfl) (fun K hK=>?_) AllReadyH.nil
      go_simp
      refine (sign_any _ _ _).mono ?_
      rintro e w2 ⟨rfl,rfl⟩
      simp only[sgn]
      go_wp2_with fail
      refine hK.out _ _ (HC.out _ (Below.refl wr.heap.size wr).drew) (fun hHeld=>?_)
      clear hK K
      try simp only[Act.put,pz1,pz2,pz3]
      refine Plan.start [23] ?_
      refine Plan.tk (so rfl) hHeld ?_
      try simp only[Act.put,pz1,pz2,pz3]
      refine Plan.done ?_
      refine wpAnyH_done (by kernel_rfl) ?_ _
      clear hHeld
      clear i0 i1 t1 ga gb
      go_wp2_with fail
      refine⟨⟨1,i+1,HLE.out,by first | rfl | trivial,by first | rfl | rw[wr2],HV2.out,HB.out.drew⟩,?_⟩
      first | exact HM.out | (rw[wr2];exact HM.out)
     ·have HV1:Hid (or2 (oo) (restC (fun v:ByteArray×List Ty=>Tok.s v.1 :: flatL v.2) l l' (i+1))=res):=Hd (by have h:=HV.out;rw[ge,or2_zero] at h;exact h)
      clear ge
      go_wp2_with fail
      refine wp_region_held_drew (S:=(fun w'=>(w'.cell? ⟨b,o+i*2,none⟩=some (.string nm)∧w'.cell? ⟨b',o'+i*2,none⟩=some (.string nm'))∧w'.cell? ⟨b,o+i*2+1,none⟩=some (.slice B bl.length d)∧w'.cell? ⟨b',o'+i*2+1,none⟩=some (.slice B' bl'.length d'))) (by kernel_rfl) (HC.out _ (Below.refl wr.heap.size wr).drew) (fun hHeld=>?_)
      refine Plan.start [0,1,2,3,4,5,6,7,8,9,10,11,12,13,14,15,16,17,18,19,20,21] ?_
      iterate 22 (refine Plan.tk (so rfl) hHeld ?_;try simp only[Act.put,pz1,pz2,pz3])
      refine Plan.done ?_
      refine wpAnyH_ready (rs:=[22]) (by kernel_rfl) (by simp) ?_
      refine AllReadyH.cons (sd (some 50) rfl) (fun K hK=>?_) AllReadyH.nil
      go_simp
      refine (sign_any _ _ _).mono ?_
      rintro e w2 ⟨rfl,rfl⟩
      simp only[sgn]
      go_wp2_with fail
      refine hK.out _ _ (HC.out _ (Below.refl wr.heap.size wr).drew) (fun hHeld=>?_)
      clear hK K
      try simp only[Act.put,pz1,pz2,pz3]
      refine Plan.start [23] ?_
      refine Plan.tk (so rfl) hHeld ?_
      try simp only[Act.put,pz1,pz2,pz3]
      refine Plan.done ?_
      refine wpAnyH_done (by kernel_rfl) ?_ _
      clear hHeld
      clear ga gb
      go_wp2_with fail
      refine wp_region_held_drew (S:=(fun w'=>(w'.cell? ⟨b,o+i*2,none⟩=some (.string nm)∧w'.cell? ⟨b',o'+i*2,none⟩=some (.string nm'))∧w'.cell? ⟨b,o+i*2+1,none⟩=some (.slice B bl.length d)∧w'.cell? ⟨b',o'+i*2+1,none⟩=some (.slice B' bl'.length d'))) (by kernel_rfl) (HC.out _ (Below.refl wr.heap.size wr).drew.drew) (fun hHeld=>?_)
      refine Plan.start [0,1,2,3,4,5,6,7,8,9] ?_
      iterate 10 (refine Plan.tk (so rfl) hHeld ?_;try simp only[Act.put,pz1,pz2,pz3])
      refine Plan.done ?_
      refine wpAnyH_ready (rs:=[10]) (by kernel_rfl) (by simp) ?_
      refine AllReadyH.cons (sd (some 63) rfl) (fun K hK=>?_) AllReadyH.nil
      go_simp
      refine (KO.out _ (Below.refl wr.heap.size wr).drew.drew).mono ?_
      rintro e w2 ⟨rfl,hb2⟩
      have HB2:=Hd ((Below.refl wr.heap.size wr).drew.drew.trans hb2.below)
      have HG2:=Hd ((HB.out.drew.drew).trans hb2)
      clear hb2
      go_wp2_with fail
      refine hK.out _ _ (HC.out _ HB2.out) (fun hHeld=>?_)
      clear hK K
      try simp only[Act.put,pz1,pz2,pz3]
      refine Plan.start [11] ?_
      refine Plan.tk (so rfl) hHeld ?_
      try simp only[Act.put,pz1,pz2,pz3]
      refine Plan.done ?_
      refine wpAnyH_done (by kernel_rfl) ?_ _
      clear hHeld
      clear i0 i1 t1
      go_wp2_with fail
      refine⟨⟨oo,i+1,HLE.out,by first | rfl | trivial,by first | rfl | rw[wr2],HV1.out,HG2.out⟩,?_⟩
      first | exact HM.out | (rw[wr2];exact HM.out)
    ·have t1:decide ((i:Int)<(l.length:Int))=false:=by simp;omega
     have HR:Hid (res=0):=Hd (by
      have h:=HO.out
      rw[show i=l.length from by omega,rest_end (fun v:ByteArray×List Ty=>Tok.s v.1 :: flatL v.2) HEQ.out,or2_zero] at h
      exact h.symm)
     clear hi hb
     go_wp2_with fail
     go_ret
     exact⟨by rw[HR.out];rfl,HB.out⟩
   ·have hc0:(cc == 0)=false:=by simpa using hcc
    have HR:Hid (res=cc):=Hd (by rw[←HO.out,or2_ne hcc])
    clear hi hb hcc
    go_wp2_with fail
    go_ret
    exact⟨by rw[HR.out];rfl,HB.out⟩
 ·rw[row_len (fun v:ByteArray×List Ty=>Tok.s v.1 :: flatL v.2) heq]
  rcases cmpZ_cases (l.length:Int) (l'.length:Int) with ⟨ha,hb,he⟩ | ⟨ha,hb,he⟩ | ⟨ha,hb,he⟩
  ·have HE:=Hd he
   have n1:l.length<l'.length:=by omega
   have n2:¬ l'.length<l.length:=by omega
   clear he heq ha hb
   go_enter Tryz.func47,Tryz.ntmps47
   go_wp2_with fail
   refine (sign_any _ _ _).mono ?_
   rintro e w1 ⟨rfl,rfl⟩
   simp only[sgn]
   go_wp2_with fail
   go_loopw [5,6] (fun vc _ wr=>vc=.int .i64 (-1)∧wr=w1) (fun _ _ _=>0)
   case atStart=>exact⟨by first | rfl | simp,rfl⟩
   case round=>
    obtain⟨rfl,rfl⟩:=hrel
    go_wp2_with fail
    go_ret
    exact⟨by rw[HE.out];rfl,Gw.refl _⟩
  ·have HE:=Hd he
   have n1:¬ l.length<l'.length:=by omega
   have n2:l'.length<l.length:=by omega
   clear he heq ha hb
   go_enter Tryz.func47,Tryz.ntmps47
   go_wp2_with fail
   refine (sign_any _ _ _).mono ?_
   rintro e w1 ⟨rfl,rfl⟩
   simp only[sgn]
   go_wp2_with fail
   go_loopw [5,6] (fun vc _ wr=>vc=.int .i64 (1)∧wr=w1) (fun _ _ _=>0)
   case atStart=>exact⟨by first | rfl | simp,rfl⟩
   case round=>
    obtain⟨rfl,rfl⟩:=hrel
    go_wp2_with fail
    go_ret
    exact⟨by rw[HE.out];rfl,Gw.refl _⟩
  ·exact absurd heq (by omega)
def okV (l:List (ByteArray×List Bool)) (i:Nat):Bool:=match l[i]? with
 | none=>true
 | some v=>nameT v.1 && decide (v.2.length≤1) && v.2.all id && !((l.take i).any fun x=>decide (x.1=v.1))
def varsB (l:List (ByteArray×List Bool)):Bool:=(List.range l.length).all (okV l)
def okF (l:List (ByteArray×Int×Bool)) (i:Nat):Bool:=match l[i]? with
 | none=>true
 | some f=>nameT f.1 && decide (0≤f.2.1) && decide (f.2.1≤3) && f.2.2 && (match i with | 0=>true | j+1=>match l[j]? with | none=>true | some p=>Go.Op.bytesLess p.1.toList f.1.toList)
def fieldsB (l:List (ByteArray×Int×Bool)):Bool:=(List.range l.length).all (okF l)
def selfB (k:Int) (t:ByteArray) (n:Int) (ps:List Ty) (fo vo:Bool):Bool:=
 if k=9 then decide (0≤n) else if k=16∨k=22∨k=17 then nameT t else if k=13 then vo else if k=14 then fo else if k=15 then isUB ps
 else if k=20 then nameT t && decide (0≤n) && decide (n≤3) else if k=21 then (n == 0 && t.toList == []) || (n == 1 && nameT t) else if k=23 then ps.all fun p=>p.k == 13 else true
def formT:Ty→Bool
 | .mk k t n ps fs vs=>(shapeK k).known && fitsB (shapeK k) t n ps.length fs.length vs.length && selfB k t n ps (fieldsB (fs.attach.map fun ⟨f,_⟩=>(f.1,f.2.1,formT f.2.2))) (varsB (vs.attach.map fun ⟨v,_⟩=>(v.1,v.2.attach.map fun ⟨b,_⟩=>formT b))) && (ps.attach.map fun ⟨p,_⟩=>formT p).all id
termination_by t=>SizeOf.sizeOf t
decreasing_by
 ·exact ty_lt_f ‹_›
 ·exact ty_lt_v ‹_› ‹_›
 ·exact ty_lt_p ‹_›
def fieldsT (fs:FsT) (fv:Ty→Bool):List (ByteArray×Int×Bool):=fs.map fun f=>(f.1,f.2.1,fv f.2.2)
def varsT (vs:VsT) (fv:Ty→Bool):List (ByteArray×List Bool):=vs.map fun v=>(v.1,v.2.map fv)
theorem formT_mk (k t n ps fs vs):formT (.mk k t n ps fs vs)=((shapeK k).known && fitsB (shapeK k) t n ps.length fs.length vs.length && selfB k t n ps (fieldsB (fieldsT fs formT)) (varsB (varsT vs formT)) && ps.all formT):=by
 rw[formT]
 unfold fieldsT varsT
 simp only[List.map_attach_eq_pmap,List.pmap_eq_map,List.all_map,Function.comp_def,id_eq]
theorem okV_at {vs:VsT} {fv:Ty→Bool} {i:Nat} (h:i<vs.length):okV (varsT vs fv) i=(nameT vs[i].1 && decide (vs[i].2.length≤1) && vs[i].2.all fv && !((vs.take i).any fun x=>decide (x.1=vs[i].1))):=by
 unfold okV varsT
 rw[List.getElem?_map,List.getElem?_eq_getElem h]
 simp only[Option.map_some,List.length_map,List.all_map,←List.map_take,List.any_map,Function.comp_def,id_eq]
theorem okF_zero {fs:FsT} {fv:Ty→Bool} (h:0<fs.length):okF (fieldsT fs fv) 0=(nameT fs[0].1 && decide (0≤fs[0].2.1) && decide (fs[0].2.1≤3) && fv fs[0].2.2):=by
 unfold okF fieldsT
 rw[List.getElem?_map,List.getElem?_eq_getElem h]
 simp
theorem okF_succ {fs:FsT} {fv:Ty→Bool} {i:Nat} (h:i+1<fs.length):okF (fieldsT fs fv) (i+1)=(nameT fs[i+1].1 && decide (0≤fs[i+1].2.1) && decide (fs[i+1].2.1≤3) && fv fs[i+1].2.2 && Go.Op.bytesLess (fs[i]'(by omega)).1.toList fs[i+1].1.toList):=by
 unfold okF fieldsT
 rw[List.getElem?_map,List.getElem?_eq_getElem h]
 have e:(fs.map fun f=>(f.1,f.2.1,fv f.2.2))[i]?=some ((fs[i]'(by omega)).1,(fs[i]'(by omega)).2.1,fv (fs[i]'(by omega)).2.2):=by rw[List.getElem?_map,List.getElem?_eq_getElem (by omega:i<fs.length)];rfl
 simp[e]
theorem varsT_len (vs:VsT) (fv:Ty→Bool):(varsT vs fv).length=vs.length:=by simp[varsT]
theorem fieldsT_len (fs:FsT) (fv:Ty→Bool):(fieldsT fs fv).length=fs.length:=by simp[fieldsT]
theorem allB_no {n i:Nat} {p:Nat→Bool} (hi:i<n) (h:p i=false):(List.range n).all p=false:=
 Bool.eq_false_iff.2 fun h2=>by have:=range_all.1 h2 i hi;rw[h] at this;cases this
def nonN (l:List Ty):List Ty:=(flatU l).filter fun t=>!(t.k == 1)
theorem nonN_take {l:List Ty} {i:Nat} (h:i<l.length):nonN (l.take (i+1))=nonN (l.take i)++(parts1 l[i]).filter fun t=>!(t.k == 1):=by
 unfold nonN
 rw[flatU_take h,List.filter_append]
theorem out_push2 {K:Nat→Prop} {w0 w2 w5:World} {v v5:Value} {os:List Ty} {t:Ty} {cs vs:List Value} (hb:Below w0.heap.size w0 w2) (ho:w2.ownsRow w0.heap.size 26 6 v os.length vs) (hr:∀ i (h:i<os.length),∃ cs,RepT K w0 os[i] cs∧∀ j u,cs[j]?=some u→vs[i*6+j]?=some u)
  (ht:RepT K w0 t cs) (hown:w5.ownsRow w0.heap.size 26 6 v5 (os.length+1) (vs++cs)) (hg:(w2.alloc (.cells cs.toArray 26)).grownBy w5 v.ownBlock) :
  OutT K w0 w5 v5 (os++[t])∧Below w0.heap.size w0 w5:=by
 have hl1:w2.heap.size≤(w2.alloc (.cells cs.toArray 26)).heap.size:=by simp
 exact⟨OutT.snoc (ho.1) hr ht hown,(hb.alloc hb.size _).grown hg (Nat.le_trans hb.size hl1) fun k hk=>(ho.lt k hk).1⟩
def FlatR (l:List Ty):Prop:=∀ (K:Nat→Prop) (w0 w:World) (A:Option Addr) (c:Nat) (v:Value) (os:List Ty),ListT K w0 l A c→Below w0.heap.size w0 w→OutT K w0 w v os→os.length+(flatU l).length≤1099511627776 →
 Calls Tryz.prog 57 #[.slice A l.length c,v] w fun e w'=>∃ v',e=.returned v'∧OutT K w0 w' v' (os++nonN l)∧Below w0.heap.size w0 w'
theorem nonN_len (l:List Ty):(nonN l).length≤(flatU l).length:=List.length_filter_le _ _
theorem flatr_list (l:List Ty) (hp:∀ p∈l,FlatR p.ps):FlatR l:=by
 intro K w0 w A c v os hL hb hO hbd
 have hll:=hL.short
 have HL:=Hd hL
 have HP:=Hd hp
 have HBD:=Hd hbd
 have HS0:Hid (OutT K w0 w v os∧Below w0.heap.size w0 w):=Hd ⟨hO,hb⟩
 obtain⟨i0,hi0,hz0,hz1,hz2⟩:=partsT infoTy
 obtain⟨vs0,hvs0,-⟩:=hO
 obtain⟨A0,c0,rfl,-⟩:=sliceT hvs0
 obtain⟨n0,hn0⟩:∃ n0,n0=os.length:=⟨_,rfl⟩
 rw[←hn0] at HS0 hvs0 ⊢
 have HN0:=Hd hn0
 clear hL hp hbd hb hvs0 hn0
 go_enter Tryz.func57,Tryz.ntmps57
 go_wp2_with fail
 go_loopw [1,5] (fun ov v wr=>∃ (i:Nat) (acc:List Ty),i≤l.length∧v=.int .i64 i∧acc=os++nonN (l.take i)∧OutT K w0 wr ov acc∧Below w0.heap.size w0 wr) (fun _ v _=>l.length - (intOf v).toNat)
 case atStart=>exact⟨0,os,by omega,rfl,by simp[nonN,flatU],HS0.out.1,HS0.out.2⟩
 case round=>
  obtain⟨i,acc,hi,rfl,hacc,ho,hb⟩:=hrel
  have HAcc:=Hd hacc
  clear hacc
  have HR:=Hd (And.intro ho hb)
  obtain⟨vs,hvs,hrs⟩:=ho
  obtain⟨A1,c1,rfl,-⟩:=sliceT hvs
  by_cases hin:i<l.length
  ·have t1:decide ((i:Int)<(l.length:Int))=true:=by simp;omega
   have wr2:wrap64 ((i:Int)+1)=((i+1:Nat):Int):=wrap_one (by omega)
   have HM:=Hd (measI hin)
   obtain⟨b,o,hA,_,hat⟩:=HL.out.at (by omega)
   have hti:=hat i hin
   have hpi:=HP.out _ (List.getElem_mem hin)
   have htk:=nonN_take hin
   have hft:=flatU_take hin
   have hsp:=flatU_split l (i+1)
   have hle:=nonN_len (l.take i)
   subst hA
   generalize l[i]=t at hti hpi htk hft
   obtain⟨k,s,n,ps,fs,ws⟩:=t
   obtain⟨cs,hcs,hrep⟩:=hti
   obtain⟨Ap,cp,Af,cf,Av,cv,rfl,-,hLp,-,-⟩:=hrep.inv
   have HREP:=Hd hrep
   have x0:wr.cell? ⟨b,o+i*6,none⟩=some (.int .i64 k):=cell_stays hb (hcs 0 _ rfl)
   have x1:=cell_stays hb (hcs 1 _ rfl)
   have x2:=cell_stays hb (hcs 2 _ rfl)
   have x3:=cell_stays hb (hcs 3 _ rfl)
   have x4:=cell_stays hb (hcs 4 _ rfl)
   have x5:=cell_stays hb (hcs 5 _ rfl)
   have HIn:Hid (i+1≤l.length):=Hd hin
   have HTk:=Hd htk
   have HOw:=Hd (And.intro hvs hrs)
   have HLen:Hid (acc.length+(parts1 (.mk k s n ps fs ws)).length≤1099511627776):=Hd (by
    have h1:=HBD.out
    rw[hsp,hft] at h1
    rw[HAcc.out]
    simp only[List.length_append] at h1 ⊢
    omega)
   by_cases h15:k=15
   ·subst h15
    have KF:=Hd (hpi K w0 wr Ap cp _ _ hLp hb HR.out.1 (by have:=HLen.out;rw[parts1_mk,if_pos rfl] at this;exact this))
    simp only[Ty.ps] at KF
    clear hpi htk hft hle hsp hcs hrep hLp hvs hrs hb hi x1 x2 x4 x5
    go_wp2_with fail
    refine KF.out.mono ?_
    rintro e w2 ⟨v2,rfl,ho2,hb2⟩
    have HR2:=Hd (And.intro ho2 hb2)
    clear ho2 hb2 KF
    go_wp2_with fail
    refine⟨⟨i+1,_,HIn.out,by first | rfl | rw[wr2],?p1,HR2.out.1,HR2.out.2⟩,?p3⟩
    case p1=>rw[HTk.out,HAcc.out,parts1_mk,if_pos rfl,List.append_assoc];rfl
    case p3=>first | exact HM.out | (rw[wr2];exact HM.out)
   ·have t15:(k == 15)=false:=by simpa using h15
    by_cases h1:k=1
    ·subst h1
     clear hpi htk hft hle hsp hcs hrep hLp hvs hrs hb hi
     go_wp2_with fail
     refine⟨⟨i+1,acc,HIn.out,by first | rfl | rw[wr2],?p1,HR.out.1,HR.out.2⟩,?p3⟩
     case p1=>
      rw[HTk.out,HAcc.out,parts1_mk,if_neg (by decide)]
      have e:([Ty.mk 1 s n ps fs ws].filter fun t=>!(t.k == 1))=[]:=rfl
      rw[e,List.append_nil]
     case p3=>first | exact HM.out | (rw[wr2];exact HM.out)
    ·have tn1:(k != 1)=true:=by simpa using h1
     have hkp:(k == 1)=false:=by simpa using h1
     have HKP:=Hd hkp
     have HC2:=Hd (cellsT_new wr [.int .i64 k,.string s,.int .i64 n,.slice Ap ps.length cp,.slice Af fs.length cf,.slice Av ws.length cv] 26)
     have HL1:Hid (acc.length+1≤1099511627776):=Hd (by have:=HLen.out;rw[parts1_mk,if_neg h15] at this;simpa using this)
     have HB:=Hd hb
     clear hpi htk hft hle hsp hcs hrep hLp hvs hrs hi hb hkp
     go_wp2_with (at_builtin;refine wpList_plain rfl fun K hK=>?_;go_loud (refine wp_append_own_at _ _ 22 rfl w0.heap.size 26 i0 (.agg #[.int .i64 0,.string ⟨#[]⟩,.int .i64 0,.slice none 0 0,.slice none 0 0,.slice none 0 0]) 6 104 Tryz.underlying22 hi0 hz0 hz1 hz2 rfl (by decide) _ _ _ rfl (HOw.out.1.alloc _) ⟨wr.heap.size,0,none⟩ 1 1 [.int .i64 k,.string s,.int .i64 n,.slice Ap ps.length cp,.slice Af fs.length cf,.slice Av ws.length cv] rfl rfl ?a0 ?a1 ?a2 ?a3 ?a4 ?_))
     case a0=>exact HC2.out
     case a1=>
      intro u hu
      simp only[List.mem_cons,List.not_mem_nil,or_false] at hu
      rcases hu with rfl | rfl | rfl | rfl | rfl | rfl <;> rfl
     case a2=>have:=HL1.out;unfold maxLen;omega
     case a3=>have:=HL1.out;omega
     case a4=>have:=HB.out.size;simp only[World.size_alloc];omega
     intro v5 w5 hown5 hg5 _ _
     refine hK _ _ ?_
     clear hK K
     have HR5:=Hd (out_push2 HB.out HOw.out.1 HOw.out.2 HREP.out hown5 hg5)
     clear hown5 hg5 x0 x1 x2 x3 x4 x5
     go_wp2_with fail
     refine⟨⟨i+1,_,HIn.out,by first | rfl | rw[wr2],?p1,HR5.out.1,HR5.out.2⟩,?p3⟩
     case p1=>
      rw[HTk.out,HAcc.out,parts1_mk,if_neg h15,List.append_assoc]
      have e:([Ty.mk k s n ps fs ws].filter fun t=>!(t.k == 1))=[Ty.mk k s n ps fs ws]:=by simp[Ty.k,HKP.out]
      rw[e]
     case p3=>first | exact HM.out | (rw[wr2];exact HM.out)
  ·have t1:decide ((i:Int)<(l.length:Int))=false:=by simp;omega
   have HE:Hid (l.take i=l):=Hd (List.take_of_length_le (by omega))
   clear hi hvs hrs hb
   go_wp2_with fail
   go_ret
   have h1:=HR.out
   have h2:=HAcc.out
   rw[HE.out] at h2
   rw[←h2]
   exact⟨.slice A1 acc.length c1,rfl,h1.1,h1.2⟩
theorem flatr_any (l:List Ty):FlatR l:=flatr_list l fun p _=>Ty.ind (C:=fun t=>FlatR t.ps) (fun _ _ _ ps _ _ hp _ _=>flatr_list ps hp) p
theorem shape_kinds (k:Int) (hk:(shapeK k).known=true):∃ lo hi,shapeK k=⟨false,false,false,false,lo,hi,true⟩∨shapeK k=⟨false,true,false,false,lo,hi,true⟩∨shapeK k=⟨true,false,false,false,lo,hi,true⟩∨shapeK k=⟨false,false,false,true,lo,hi,true⟩∨shapeK k=⟨false,false,true,false,lo,hi,true⟩∨shapeK k=⟨true,true,false,false,lo,hi,true⟩:=by
 unfold shapeK at hk ⊢
 by_cases h:1≤k∧k≤8
 ·simp only[if_pos h]
  exact⟨0,0,(.inl rfl)⟩
 simp only[if_neg h] at hk ⊢
 clear h
 by_cases h:k=9
 ·simp only[if_pos h]
  exact⟨0,0,(.inr (.inl rfl))⟩
 simp only[if_neg h] at hk ⊢
 clear h
 by_cases h:k=10∨k=16∨k=22
 ·simp only[if_pos h]
  exact⟨0,0,(.inr (.inr (.inl rfl)))⟩
 simp only[if_neg h] at hk ⊢
 clear h
 by_cases h:k=11∨k=18
 ·simp only[if_pos h]
  exact⟨1,1,(.inl rfl)⟩
 simp only[if_neg h] at hk ⊢
 clear h
 by_cases h:k=12
 ·simp only[if_pos h]
  exact⟨0,(-1),(.inl rfl)⟩
 simp only[if_neg h] at hk ⊢
 clear h
 by_cases h:k=13
 ·simp only[if_pos h]
  exact⟨1,(-1),(.inr (.inr (.inr (.inl rfl))))⟩
 simp only[if_neg h] at hk ⊢
 clear h
 by_cases h:k=14
 ·simp only[if_pos h]
  exact⟨0,0,(.inr (.inr (.inr (.inr (.inl rfl)))))⟩
 simp only[if_neg h] at hk ⊢
 clear h
 by_cases h:k=15∨k=23
 ·simp only[if_pos h]
  exact⟨2,(-1),(.inl rfl)⟩
 simp only[if_neg h] at hk ⊢
 clear h
 by_cases h:k=17
 ·simp only[if_pos h]
  exact⟨0,(-1),(.inr (.inr (.inl rfl)))⟩
 simp only[if_neg h] at hk ⊢
 clear h
 by_cases h:k=19
 ·simp only[if_pos h]
  exact⟨2,2,(.inl rfl)⟩
 simp only[if_neg h] at hk ⊢
 clear h
 by_cases h:k=20
 ·simp only[if_pos h]
  exact⟨2,2,(.inr (.inr (.inr (.inr (.inr rfl)))))⟩
 simp only[if_neg h] at hk ⊢
 clear h
 by_cases h:k=21
 ·simp only[if_pos h]
  exact⟨4,4,(.inr (.inr (.inr (.inr (.inr rfl)))))⟩
 simp only[if_neg h] at hk ⊢
 clear h
 cases hk
theorem fits_any {k:Int} (hk:(shapeK k).known=true) {w:World} {b o np nf nv c1 c2 c3:Nat} {t:ByteArray} {n:Int} {A1 A2 A3:Option Addr} (x1:w.cell? ⟨b,o+1,none⟩=some (.string t)) (x2:w.cell? ⟨b,o+2,none⟩=some (.int .i64 n)) (x3:w.cell? ⟨b,o+3,none⟩=some (.slice A1 np c1)) (x4:w.cell? ⟨b,o+4,none⟩=some (.slice A2 nf c2)) (x5:w.cell? ⟨b,o+5,none⟩=some (.slice A3 nv c3)) :
  Calls Tryz.prog 95 #[shpV (shapeK k),.pointer (some ⟨b,o,none⟩)] w fun e w'=>e=.returned (.bool (fitsB (shapeK k) t n np nf nv))∧Below w.heap.size w w':=by
 obtain⟨lo,hi,h⟩:=shape_kinds k hk
 rcases h with h | h | h | h | h | h
 ·rw[h];exact fits_ffff x1 x2 x3 x4 x5
 ·rw[h];exact fits_ftff x1 x2 x3 x4 x5
 ·rw[h];exact fits_tfff x1 x2 x3 x4 x5
 ·rw[h];exact fits_ffft x1 x2 x3 x4 x5
 ·rw[h];exact fits_fftf x1 x2 x3 x4 x5
 ·rw[h];exact fits_ttff x1 x2 x3 x4 x5
def FormIs (t:Ty) (r:Bool):Prop:=∀ (K:Nat→Prop) (w:World) (b o:Nat),AtT K w t b o→Calls Tryz.prog 64 #[.pointer (some ⟨b,o,none⟩)] w fun e w'=>e=.returned (.bool r)∧Below w.heap.size w w'
def SelfIs (t:Ty) (r:Bool):Prop:=∀ (K:Nat→Prop) (w:World) (b o:Nat),AtT K w t b o→Calls Tryz.prog 96 #[.pointer (some ⟨b,o,none⟩)] w fun e w'=>e=.returned (.bool r)∧Below w.heap.size w w'
theorem all_drop {α:Type} {l:List α} {p:α→Bool} {i:Nat} (h:i<l.length):(l.drop i).all p=(p l[i] && (l.drop (i+1)).all p):=by rw[List.drop_eq_getElem_cons h,List.all_cons]
theorem form_step (k:Int) (t:ByteArray) (n:Int) (ps:List Ty) (fs:FsT) (vs:VsT) (sv:Bool) (fv:Ty→Bool) (hs:SelfIs (.mk k t n ps fs vs) sv) (hp:∀ p∈ps,FormIs p (fv p)) :
  FormIs (.mk k t n ps fs vs) ((shapeK k).known && fitsB (shapeK k) t n ps.length fs.length vs.length && sv && ps.all fv):=by
 intro K w b o h
 obtain⟨A,c,A2,c2,A3,c3,⟨x0,x1,x2,x3,x4,x5⟩,-,hP,-⟩:=h.six
 have KS:=Hd (shape_any k w)
 have KF:Hid ((shapeK k).known=true→∀ wx,Below w.heap.size w wx→Calls Tryz.prog 95 #[shpV (shapeK k),.pointer (some ⟨b,o,none⟩)] wx fun e w'=>e=.returned (.bool (fitsB (shapeK k) t n ps.length fs.length vs.length))∧Below wx.heap.size wx w'):=Hd fun hk wx hx=>fits_any hk (cell_stays hx x1) (cell_stays hx x2) (cell_stays hx x3) (cell_stays hx x4) (cell_stays hx x5)
 have KX:Hid (∀ wx,Below w.heap.size w wx→Calls Tryz.prog 96 #[.pointer (some ⟨b,o,none⟩)] wx fun e w'=>e=.returned (.bool sv)∧Below wx.heap.size wx w'):=Hd fun wx hx=>hs K wx b o (h.later hx)
 have HX:Hid (∀ wx,Below w.heap.size w wx→wx.cell? ⟨b,o+3,none⟩=some (.slice A ps.length c)):=Hd fun wx hx=>cell_stays hx x3
 have HN:Hid (∀ wx i (hi:i<ps.length),Below w.heap.size w wx→∃ pb po,A=some ⟨pb,po,none⟩∧Calls Tryz.prog 64 #[.pointer (some ⟨pb,po+i*6,none⟩)] wx fun e w'=>e=.returned (.bool (fv ps[i]))∧Below wx.heap.size wx w'):=Hd fun wx i hi hx=>by
  obtain⟨pb,po,hA,_,hr⟩:=hP.at (by omega)
  exact⟨pb,po,hA,hp _ (List.getElem_mem hi) K wx pb _ ((hr i hi).later hx)⟩
 have hlp:=hP.short
 clear h hs hp hP x1 x2 x3 x4 x5
 generalize fitsB (shapeK k) t n ps.length fs.length vs.length=fb at KF ⊢
 generalize shapeK k=s at KS KF ⊢
 obtain⟨st,sn,sf,s4,lo,hi,kn⟩:=s
 simp only[shpV] at KS KF ⊢
 cases kn with
 | false=>
  clear KF KX HX HN
  go_enter Tryz.func64,Tryz.ntmps64
  go_wp2_with fail
  refine KS.out.mono ?_
  rintro e w1 ⟨rfl,hb1⟩
  have HB1:=Hd hb1
  clear hb1
  go_wp2_with fail
  go_ret
  exact⟨rfl,HB1.out.alloc HB1.out.size _⟩
 | true=>
  have KF2:Hid (∀ wx,Below w.heap.size w wx→Calls Tryz.prog 95 #[.agg #[.bool st,.bool sn,.bool sf,.bool s4,.int .i64 lo,.int .i64 hi],.pointer (some ⟨b,o,none⟩)] wx fun e w'=>e=.returned (.bool fb)∧Below wx.heap.size wx w'):=Hd (KF.out rfl)
  clear KF
  go_enter Tryz.func64,Tryz.ntmps64
  go_wp2_with fail
  refine KS.out.mono ?_
  rintro e w1 ⟨rfl,hb1⟩
  have HB1:Hid (Below w.heap.size w (w1.alloc (.cells #[.bool st,.bool sn,.bool sf,.bool s4,.int .i64 lo,.int .i64 hi] 138))):=Hd (hb1.alloc hb1.size _)
  clear hb1 KS
  go_wp2_with fail
  refine (KF2.out _ HB1.out).mono ?_
  rintro e w2 ⟨rfl,hb2⟩
  have HB2:=Hd (below_then HB1.out hb2)
  clear hb2 KF2
  cases fb with
  | false=>
   go_wp2_with fail
   go_ret
   exact⟨rfl,HB2.out⟩
  | true=>
   go_wp2_with fail
   refine (KX.out _ HB2.out).mono ?_
   rintro e w3 ⟨rfl,hb3⟩
   have HB3:=Hd (below_then HB2.out hb3)
   clear hb3 KX
   cases sv with
   | false=>
    go_wp2_with fail
    go_ret
    exact⟨rfl,HB3.out⟩
   | true=>
    have y3:=HX.out _ HB3.out
    go_wp2_with fail
    clear y3
    go_loopw [32] (fun v wr=>∃ (i:Nat),i≤ps.length∧v=.int .i64 i∧ps.all fv=(ps.drop i).all fv∧Below w.heap.size w wr) (fun v _=>ps.length - (intOf v).toNat)
    case atStart=>exact⟨0,by omega,rfl,by rw[List.drop_zero],HB3.out⟩
    case round=>
     obtain⟨i,hi,rfl,he,hbr⟩:=hrel
     have HE:=Hd he
     have HBr:=Hd hbr
     have y3:=HX.out _ hbr
     clear he hbr
     by_cases hin:i<ps.length
     ·have t1:decide ((i:Int)<(ps.length:Int))=true:=by simp;omega
      have wr2:wrap64 ((i:Int)+1)=((i+1:Nat):Int):=wrap_one (by omega)
      obtain⟨pb,po,hA,hN⟩:=HN.out _ i hin HBr.out
      have KN:=Hd hN
      have HS:=Hd (all_drop (p:=fv) hin)
      have HM:=Hd (measI hin)
      have HIn:=Hd hin
      subst hA
      generalize hr:fv ps[i]=r at KN HS
      clear hN hi hr
      go_wp2_with fail
      refine KN.out.mono ?_
      rintro e w4 ⟨rfl,hb4⟩
      have HB4:=Hd (below_then HBr.out hb4)
      clear hb4 y3
      cases r with
      | false=>
       go_wp2_with fail
       go_ret
       exact⟨by rw[HE.out,HS.out];rfl,HB4.out⟩
      | true=>
       go_wp2_with fail
       refine⟨⟨i+1,HIn.out,by first | rfl | rw[wr2],by rw[HE.out,HS.out];rfl,HB4.out⟩,?_⟩
       first | exact HM.out | (rw[wr2];exact HM.out)
     ·have t1:decide ((i:Int)<(ps.length:Int))=false:=by simp;omega
      have HE1:Hid (ps.all fv=true):=Hd (by rw[HE.out,List.drop_eq_nil_of_le (by omega)];rfl)
      clear hi y3
      go_wp2_with fail
      go_ret
      exact⟨by rw[HE1.out];rfl,HBr.out⟩
theorem RowAt.both {K:Nat→Prop} {w:World} {A:Option Addr} {l c b o:Nat} (h:RowAt K A l c b o) (hb:0<l→b<w.heap.size):RowAt (fun b=>K b∧b<w.heap.size) A l c b o:=⟨h.le,h.big,h.none,fun hl=>⟨(h.some hl).1,(h.some hl).2,hb hl⟩⟩
theorem RepT.both {K:Nat→Prop} {w:World} (t:Ty):∀ cs,RepT K w t cs→RepT (fun b=>K b∧b<w.heap.size) w t cs:=by
 refine Ty.ind (C:=fun t=>∀ cs,RepT K w t cs→RepT (fun b=>K b∧b<w.heap.size) w t cs) ?_ t
 intro k t n ps fs vs ihp ihf ihv cs h
 obtain⟨A,c,A',c',A'',c'',rfl,ht,⟨pb,po,hA,hp⟩,⟨fb,fo,hA',hf⟩,⟨vb,vo,hA'',hv⟩⟩:=h.inv
 refine RepT.of ht ⟨pb,po,hA.both (fun hl=>?_),fun i h=>?_⟩ ⟨fb,fo,hA'.both (fun hl=>World.block_lt_of_cell? _ _ (hf 0 hl).1),fun i h=>?_⟩ ⟨vb,vo,hA''.both (fun hl=>?_),fun i h=>?_⟩
 ·obtain⟨cs,h1,h2⟩:=hp 0 hl
  have h6:=h2.six
  exact World.block_lt_of_cell? _ _ (h1 0 _ (List.getElem?_eq_getElem (by omega)))
 ·obtain⟨cs,h1,h2⟩:=hp i h
  exact⟨cs,h1,ihp _ (List.getElem_mem h) cs h2⟩
 ·obtain⟨h1,h2,h3,cs,h4,h5⟩:=hf i h
  exact⟨h1,h2,h3,cs,h4,ihf _ (List.getElem_mem h) cs h5⟩
 ·obtain⟨B,d,h1,_⟩:=hv 0 hl
  exact World.block_lt_of_cell? _ _ h1
 ·obtain⟨B,d,h1,h2,h3,⟨b,o,h4,h5⟩⟩:=hv i h
  refine⟨B,d,h1,h2,h3,⟨b,o,h4.both (fun hl=>?_),fun j h'=>?_⟩⟩
  ·obtain⟨cs,h6,h7⟩:=h5 0 hl
   have h8:=h7.six
   exact World.block_lt_of_cell? _ _ (h6 0 _ (List.getElem?_eq_getElem (by omega)))
  ·obtain⟨cs,h6,h7⟩:=h5 j h'
   exact⟨cs,h6,ihv _ (List.getElem_mem h) _ (List.getElem_mem h') cs h7⟩
theorem ListT.both {K:Nat→Prop} {w:World} {l:List Ty} {A:Option Addr} {c:Nat} (h:ListT K w l A c):ListT (fun b=>K b∧b<w.heap.size) w l A c:=by
 obtain⟨b,o,h1,h2⟩:=h
 refine⟨b,o,h1.both fun hl=>?_,fun i hi=>?_⟩
 ·obtain⟨cs,h3,h4⟩:=h2 0 hl
  have h6:=h4.six
  exact World.block_lt_of_cell? _ _ (h3 0 _ (List.getElem?_eq_getElem (by omega)))
 ·obtain⟨cs,h3,h4⟩:=h2 i hi
  exact⟨cs,h3,RepT.both _ _ h4⟩
theorem RepT.weak {K K':Nat→Prop} {w:World} {t:Ty} {cs:List Value} (h:RepT K w t cs) (hk:∀ b,K b→K' b):RepT K' w t cs:=RepT.keep hk (fun _ _ _ _ h=>h) t cs h
theorem ListT.weak {K K':Nat→Prop} {w:World} {l:List Ty} {A:Option Addr} {c:Nat} (h:ListT K w l A c) (hk:∀ b,K b→K' b):ListT K' w l A c:=by
 obtain⟨b,o,h1,h2⟩:=h
 exact⟨b,o,h1.weak hk,fun i hi=>by obtain⟨cs,h3,h4⟩:=h2 i hi;exact⟨cs,h3,h4.weak hk⟩⟩
theorem ret_box {K:Nat→Prop} {B g:Nat} {W:World} {t:Ty} {cs:List Value} (h:RepT (fun b=>K b∨g<b) W t cs) (hlo:∀ b,K b→b<g) (hg:B≤g) (y0 y1 y2 y3 y4 y5:Value) :
  RepT (fun b=>K b∨B≤b) ((((((W.setCell ⟨g,0,none⟩ y0).setCell ⟨g,1,none⟩ y1).setCell ⟨g,2,none⟩ y2).setCell ⟨g,3,none⟩ y3).setCell ⟨g,4,none⟩ y4).setCell ⟨g,5,none⟩ y5) t cs:=
 RepT.keep (fun b hb=>hb.imp id (fun h=>Nat.le_trans hg (Nat.le_of_lt h))) (fun b o v hk hc=>by
  rw[six_other W y0 y1 y2 y3 y4 y5 (p:=⟨b,o,none⟩) (by
   rcases hk with hk | hk
   ·have:=hlo b hk;show b≠_;omega
   ·show b≠_;omega)]
  exact hc) t cs h
theorem rep_k (K:Nat→Prop) (w:World) (k:Int):RepT K w (tyK k) [.int .i64 k,.string ⟨#[]⟩,.int .i64 0,.slice none 0 0,.slice none 0 0,.slice none 0 0]:=
 RepT.of (by decide) ⟨⟨0,0,⟨by simp,by decide,fun _=>rfl,fun h=>absurd h (by simp)⟩,fun i h=>absurd h (by simp)⟩⟩ ⟨⟨0,0,⟨by simp,by decide,fun _=>rfl,fun h=>absurd h (by simp)⟩,fun i h=>absurd h (by simp)⟩⟩ ⟨⟨0,0,⟨by simp,by decide,fun _=>rfl,fun h=>absurd h (by simp)⟩,fun i h=>absurd h (by simp)⟩⟩
def UnionP:Prop:=∀ (K:Nat→Prop) (w:World) (l:List Ty) (A:Option Addr) (c:Nat),ListT K w l A c→(flatU l).length≤1099511627776→(∀ b,K b→b<w.heap.size)→Calls Tryz.prog 68 #[.slice A l.length c] w (TyPost K w (unionT l))
theorem box_up {w w':World} {b:Nat} {o:Obj} (hb:Below w.heap.size w w') (hlt:b<w.heap.size) (h:w.heap[b]?=some o):w'.heap[b]?=some o:=(hb.block b hlt).trans h
end Go.Proofs.YtlpfpehegddcfaaGreatDoor
