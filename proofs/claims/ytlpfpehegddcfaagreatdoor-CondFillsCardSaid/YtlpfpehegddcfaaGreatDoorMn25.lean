import Derived.Test.YtlpfpehegddcfaaGreatDoorMn24
namespace Go.Proofs.YtlpfpehegddcfaaGreatDoor
set_option maxRecDepth 100000
set_option maxHeartbeats 64000000
open Go.RowKit
def InsP (p t:Ty):Prop:=GatP 131 (gathT p t) p t
theorem hold_comp {p t:Ty} (hinf:infT p=true) (hcomp:isComp p.k=true) (ht:¬ t.k=15) (ih:InsP p t):HoldP p t:=by
 intro K K' w0 w m F G b o b' o' hT hP hKT hKP hG hB hfp hft hct hlen
 obtain⟨k,s,n,ps,fs,vs⟩:=p
 obtain⟨k2,s2,n2,ps2,fs2,vs2⟩:=t
 obtain⟨A,c,A',c',A'',c'',⟨x0,x1,x2,x3,x4,x5⟩,-,hLp,hLf,hLv⟩:=hP.six
 obtain⟨A2,c2,B2,d2,C2,e2,⟨y0,y1,y2,y3,y4,y5⟩,-,hLt,hLg,hLu⟩:=hT.six
 have ki:=inf_any _ K' w b' o' hP
 rw[hinf] at ki
 have hcall:=ih K K' w0 w m F G b o b' o' hT hP hKT hKP hG hB hfp hft hct hlen
 have KI:=Hd ki
 have KC:=Hd hcall
 have b15:(k2 == 15)=false:=beq_eq_false_iff_ne.2 ht
 have g15:decide (k2=15)=false:=decide_eq_false ht
 have hcc:k=11∨k=12∨k=17∨k=13∨k=14:=by
  have h:isComp k=true:=hcomp
  unfold isComp at h
  simp only[Bool.or_eq_true,beq_iff_eq] at h
  omega
 clear hT hP hKT hKP hG hB hfp hft hct hlen ki hcall hinf hcomp ih hLp hLf hLv hLt hLg hLu x1 x2 x3 x4 x5 y1 y2 y3 y4 y5
 generalize gathT (.mk k s n ps fs vs) (.mk k2 s2 n2 ps2 fs2 vs2)=gg at KC ⊢
 rcases hcc with rfl | rfl | rfl | rfl | rfl
 ·go_enter Tryz.func92,Tryz.ntmps92
  go_wp2_with fail
  refine KI.out.mono ?_
  rintro e w' ⟨rfl,hw⟩;obtain rfl:=hw.symm
  go_wp2_with fail
  refine KC.out.mono ?_
  rintro e w' ⟨rfl,hm⟩
  have HM:=Hd hm
  clear hm
  go_wp2_with fail
  exact bodyPost_end (v:=.tuple #[]) (by simp[results,Tryz.results92,go_sem]) rfl ⟨rfl,HM.out⟩
 ·go_enter Tryz.func92,Tryz.ntmps92
  go_wp2_with fail
  refine KI.out.mono ?_
  rintro e w' ⟨rfl,hw⟩;obtain rfl:=hw.symm
  go_wp2_with fail
  refine KC.out.mono ?_
  rintro e w' ⟨rfl,hm⟩
  have HM:=Hd hm
  clear hm
  go_wp2_with fail
  exact bodyPost_end (v:=.tuple #[]) (by simp[results,Tryz.results92,go_sem]) rfl ⟨rfl,HM.out⟩
 ·go_enter Tryz.func92,Tryz.ntmps92
  go_wp2_with fail
  refine KI.out.mono ?_
  rintro e w' ⟨rfl,hw⟩;obtain rfl:=hw.symm
  go_wp2_with fail
  refine KC.out.mono ?_
  rintro e w' ⟨rfl,hm⟩
  have HM:=Hd hm
  clear hm
  go_wp2_with fail
  exact bodyPost_end (v:=.tuple #[]) (by simp[results,Tryz.results92,go_sem]) rfl ⟨rfl,HM.out⟩
 ·go_enter Tryz.func92,Tryz.ntmps92
  go_wp2_with fail
  refine KI.out.mono ?_
  rintro e w' ⟨rfl,hw⟩;obtain rfl:=hw.symm
  go_wp2_with fail
  refine KC.out.mono ?_
  rintro e w' ⟨rfl,hm⟩
  have HM:=Hd hm
  clear hm
  go_wp2_with fail
  exact bodyPost_end (v:=.tuple #[]) (by simp[results,Tryz.results92,go_sem]) rfl ⟨rfl,HM.out⟩
 ·go_enter Tryz.func92,Tryz.ntmps92
  go_wp2_with fail
  refine KI.out.mono ?_
  rintro e w' ⟨rfl,hw⟩;obtain rfl:=hw.symm
  go_wp2_with fail
  refine KC.out.mono ?_
  rintro e w' ⟨rfl,hm⟩
  have HM:=Hd hm
  clear hm
  go_wp2_with fail
  exact bodyPost_end (v:=.tuple #[]) (by simp[results,Tryz.results92,go_sem]) rfl ⟨rfl,HM.out⟩
theorem HoldMid.drew {w0 w wr:World} {m:Nat} {F:ByteArray→Option Rw} {G:List (ByteArray×Ty)} (h:HoldMid w0 w m F G wr):HoldMid w0 w m F G wr.drew:=by
 obtain⟨F',hG,hb,hf⟩:=h
 exact⟨F',hG.later (Below.refl _ _).drew,hb.trans (ButG.of_below (O:=fun _=>False) (Below.refl _ _).drew) (fun _ h=>h.elim),hf⟩
theorem form_11 {t:ByteArray} {n:Int} {ps:List Ty} {fs:FsT} {vs:VsT} (h:formT (.mk 11 t n ps fs vs)=true):∃ q,ps=[q]:=by
 have hf:=form_fits h
 have hs:shapeK 11=⟨false,false,false,false,1,1,true⟩:=rfl
 rw[hs] at hf
 unfold fitsB at hf
 simp only[Bool.and_eq_true,Bool.not_eq_true',Bool.or_eq_false_iff,Bool.or_eq_true,decide_eq_true_eq,beq_iff_eq,Bool.not_false,Bool.true_and,decide_eq_false_iff_not] at hf
 obtain⟨_,h5,h6⟩:=hf
 have h7:ps.length=1:=by omega
 exact List.length_eq_one_iff.1 h7
theorem ins_array {p t:Ty} (hk:p.k=11) (hk2:t.k=11) (hinf:infT p=true) (ih:∀ q u,q∈p.ps→u∈t.ps→HoldP q u):InsP p t:=by
 intro K K' w0 w m F G b o b' o' hT hP hKT hKP hG hB hfp hft hct hlen
 obtain⟨k,s,n,ps,fs,vs⟩:=p
 obtain⟨k2,s2,n2,ps2,fs2,vs2⟩:=t
 obtain rfl:k=11:=hk
 obtain rfl:k2=11:=hk2
 obtain⟨q,rfl⟩:=form_11 hfp
 obtain⟨u,rfl⟩:=form_11 hft
 have hga:gathT (.mk 11 s n [q] fs vs) (.mk 11 s2 n2 [u] fs2 vs2)=gathT q u:=by
  rw[gathT_eq,if_neg (by rw[hinf];decide),if_neg (by show ¬ ((11:Int)=22);decide),if_neg (by show ¬ ((11:Int)=15);decide),if_neg (by show ¬ (isComp 11=false);decide),if_neg (by show ¬ ((11:Int)=15);decide),if_neg (by show ¬ ((11:Int)=11∧(11:Int)=12);decide),if_neg (by show ¬ ((11:Int)≠11);decide),if_pos (show (Ty.mk 11 s n [q] fs vs).k=11 from rfl)]
  rfl
 rw[hga] at hlen ⊢
 obtain⟨A,c,A',c',A'',c'',⟨x0,x1,x2,x3,x4,x5⟩,-,hLp,hLf,hLv⟩:=hP.six
 obtain⟨A2,c2,B2,d2,C2,e2,⟨y0,y1,y2,y3,y4,y5⟩,-,hLt,hLg,hLu⟩:=hT.six
 obtain⟨pb,po,hA,hKb,hat⟩:=hLp.at (by simp)
 subst hA
 obtain⟨qb,qo,hA2,hKb2,hat2⟩:=hLt.at (by simp)
 subst hA2
 have hq:=hat 0 (by simp)
 have hu:=hat2 0 (by simp)
 rw[Nat.zero_mul,Nat.add_zero] at hq hu
 simp only[List.length_cons,List.length_nil,Nat.zero_add] at x3 y3
 have hnb:=(hKT b (.inr rfl)).2
 have hnb':=(hKP b' (.inr rfl)).2
 have HSW:Hid (∀ wx G',HoldMid w0 w m F G' wx→(wx.cell? ⟨b',o',none⟩=some (.int .i64 11)∧wx.cell? ⟨b',o'+3,none⟩=some (.slice (some ⟨pb,po,none⟩) 1 c))∧(wx.cell? ⟨b,o,none⟩=some (.int .i64 11)∧wx.cell? ⟨b,o+3,none⟩=some (.slice (some ⟨qb,qo,none⟩) 1 c2))):=Hd fun wx G' hm=>by
  obtain⟨F',_,hb,_⟩:=hm
  exact⟨⟨but_cell hb hnb' x0,but_cell hb hnb' x3⟩,but_cell hb hnb y0,but_cell hb hnb y3⟩
 have KC:Hid (∀ wr,HoldMid w0 w m F G wr→Calls Tryz.prog 92 #[.map (some m),.pointer (some ⟨qb,qo,none⟩),.pointer (some ⟨pb,po,none⟩)] wr fun e w'=>e=.returned (.tuple #[])∧HoldMid w0 w m F (G++gathT q u) w'):=Hd fun wr hm=>
  GatP.go (ih q u (List.mem_singleton.2 rfl) (List.mem_singleton.2 rfl)) hm hu hq (fun x hx=>hKT x (hx.elim .inl fun e=>.inl (by rw[e];exact hKb2))) (fun x hx=>hKP x (hx.elim .inl fun e=>.inl (by rw[e];exact hKb))) hB (form_ps hfp _ (List.mem_singleton.2 rfl)) (form_ps hft _ (List.mem_singleton.2 rfl)) (by have h2:=cnt_ps (.mk 11 s n [q] fs vs);have h4:=cnt_ps (.mk 11 s2 n2 [u] fs2 vs2);simp only[Ty.ps,cntL_cons,cntL_nil] at h2 h4;omega) hlen
 have HST1:=Hd (HoldMid.start hG).drew
 have HST2:=Hd (HoldMid.start hG).drew.drew
 clear hT hP hKT hKP hG hB hfp hft hct hlen hga hLp hLf hLv hLt hLg hLu hat hat2 hKb hKb2 ih hnb hnb' hinf hq hu x1 x2 x4 x5 y1 y2 y4 y5
 generalize gathT q u=gg at KC ⊢
 go_enter Tryz.func131,Tryz.ntmps131
 go_upto_region 3 with fail
 clear x0 x3 y0 y3
 refine wp_region_held_drew (S:=(fun w'=>(w'.cell? ⟨b',o',none⟩=some (.int .i64 11)∧w'.cell? ⟨b',o'+3,none⟩=some (.slice (some ⟨pb,po,none⟩) 1 c))∧(w'.cell? ⟨b,o,none⟩=some (.int .i64 11)∧w'.cell? ⟨b,o+3,none⟩=some (.slice (some ⟨qb,qo,none⟩) 1 c2)))) (by kernel_rfl) (HSW.out _ _ HST1.out) (fun hHeld=>?_)
 refine Plan.start [0,1,2,3,4,5,6,7,8,9] ?_
 iterate 10 (refine Plan.tk (so rfl) hHeld ?_;try simp only[Act.put,pz1,pz2,pz3])
 refine Plan.done ?_
 refine wpAnyH_done (by kernel_rfl) ?_ _
 clear hHeld
 obtain⟨⟨z0,z3⟩,v0,v3⟩:=HSW.out _ _ HST1.out
 go_upto_region 5 with fail
 clear z0 z3 v0 v3
 refine wp_region_held_drew (S:=(fun w'=>(w'.cell? ⟨b',o',none⟩=some (.int .i64 11)∧w'.cell? ⟨b',o'+3,none⟩=some (.slice (some ⟨pb,po,none⟩) 1 c))∧(w'.cell? ⟨b,o,none⟩=some (.int .i64 11)∧w'.cell? ⟨b,o+3,none⟩=some (.slice (some ⟨qb,qo,none⟩) 1 c2)))) (by kernel_rfl) (HSW.out _ _ HST2.out) (fun hHeld=>?_)
 refine Plan.start [0,1,2,3,4,5,6,7,8,9,10] ?_
 iterate 11 (refine Plan.tk (so rfl) hHeld ?_;try simp only[Act.put,pz1,pz2,pz3])
 refine Plan.done ?_
 refine wpAnyH_ready (rs:=[11]) (by kernel_rfl) (by simp) ?_
 refine AllReadyH.cons (sd (some 66) rfl) (fun Kx hK=>?_) AllReadyH.nil
 go_simp
 refine (KC.out _ HST2.out).mono ?_
 rintro e w9 ⟨rfl,hm2⟩
 have HM2:=Hd hm2
 clear hm2
 go_wp2_with fail
 refine hK.out _ _ (HSW.out _ _ HM2.out) (fun hHeld=>?_)
 clear hK Kx
 try simp only[Act.put,pz1,pz2,pz3]
 refine wpAnyH_done (by kernel_rfl) ?_ _
 clear hHeld
 go_wp2_with fail
 exact bodyPost_end (v:=.tuple #[]) (by simp[results,Tryz.results131,go_sem]) rfl ⟨rfl,HM2.out⟩
theorem wp_append_s {B:Nat} {w:World} {v:Value} {l:List ByteArray} {s:ByteArray} {gg:Nat} {o:Oper} {a:Act} {Kc:Act→World→Prop} {Q:Exit→Act→World→Prop} (sl x:Operand)
  (ho:o.op=.call { callee:=.builtin .append,args:=#[sl,x],argTypes:=#[46,46] }) (hs:a.eval sl=v) (hx:a.eval x=.slice (some ⟨gg,0,none⟩) 1 1)
  (hO:OutS B w v l) (hc:w.cell? ⟨gg,0,none⟩=some (.string s)) (hB:B≤w.heap.size) (hbd:l.length+1≤1099511627776)
  (h:∀ v' w',OutS B w' v' (l++[s])→w.grownBy w' v.ownBlock→(v'.ownBlock=v.ownBlock∨v'.ownBlock=some w.heap.size)→Kc (a.put o.dst v') w') :
  Oper.wp Tryz.prog o a w Kc Q:=by
 obtain⟨i0,hi0,hz0,hz1,hz2⟩:=partsT infoStr
 refine wp_append_own_at sl x 46 ho B 9 i0 (.string ⟨#[]⟩) 1 16 Tryz.underlying46 hi0 hz0 hz1 hz2 rfl (by decide) v l.length _ hs hO ⟨gg,0,none⟩ 1 1 [.string s] hx rfl (fun j u hj=>?_) (fun u hu=>?_) (by unfold maxLen;omega) (by omega) hB ?_
 ·have hj0:j=0:=by have:=(List.getElem?_eq_some_iff.1 hj).1;simp at this;exact this
  subst hj0
  obtain rfl:Value.string s=u:=by simpa using hj
  have e:((⟨gg,0,none⟩:Addr).add 0)=⟨gg,0,none⟩:=rfl
  rw[e];exact hc
 ·simp only[List.mem_cons,List.not_mem_nil,or_false] at hu
  rw[hu];rfl
 ·intro v' w' g1 g2 _ g4
  refine h v' w' ?_ g2 g4
  unfold OutS
  rw[List.length_append,List.map_append]
  exact g1
def NmB (w:World) (g:Nat) (v:Value):Prop:=w.heap[g]?=some (.cells #[v] 46 (0,0))
def NmS (w0 w:World) (g:Nat) (l:List ByteArray):Prop:=∃ v,NmB w g v∧OutS w0.heap.size w v l∧Below w0.heap.size w0 w∧w0.heap.size≤g
def InfsP (t:Ty):Prop:=∀ (K:Nat→Prop) (w0 w:World) (b o g:Nat) (l:List ByteArray),AtT K w0 t b o→formT t=true→NmS w0 w g l→l.length+(namesI t).length≤1099511627776 →
 Calls Tryz.prog 132 #[.pointer (some ⟨b,o,none⟩),.pointer (some ⟨g,0,none⟩)] w fun e w'=>e=.returned (.tuple #[])∧NmS w0 w' g (l++namesI t)
theorem typeT_str {B:Nat} {w:World} {v:Value} {l:List ByteArray} (h:OutS B w v l) {b:Nat} (hb:v.ownBlock=some b):∃ c,w.heap[b]?=some (.cells c 9 (0,0)):=by
 rcases h.2 with ⟨rfl,_⟩ | ⟨g,cap,cur,rfl,_,hg,_⟩
 ·cases hb
 ·injection hb with hb
  exact⟨cur,by rw[←hb];exact hg⟩
theorem nm_apart {B:Nat} {w:World} {g:Nat} {v v':Value} {l:List ByteArray} (h:NmB w g v) (ho:OutS B w v' l):v'.ownBlock≠some g:=fun e=>by
 obtain⟨c,hc⟩:=typeT_str ho e
 unfold NmB at h
 rw[hc] at h
 injection h with h
 injection h with _ h
 exact absurd h (by decide)
theorem out_lo {B:Nat} {w:World} {v:Value} {l:List ByteArray} (h:OutS B w v l):∀ k,v.ownBlock=some k→B≤k:=fun k hk=>by
 rcases h.2 with ⟨rfl,_⟩ | ⟨g,cap,cur,rfl,hg,_⟩
 ·cases hk
 ·injection hk with hk
  obtain rfl:g=k:=hk
  exact hg
theorem nm_store {w0 w:World} {g:Nat} {v v5:Value} {l:List ByteArray} (h:w.heap[g]?=some (.cells #[v] 46 (0,0))) (ho:OutS w0.heap.size w v5 l) (hb:Below w0.heap.size w0 w) (hg:w0.heap.size≤g):NmS w0 (w.setCell ⟨g,0,none⟩ v5) g l:=by
 have hne:v5.ownBlock≠some g:=nm_apart h ho
 refine⟨v5,Go.heap_setCell_same w g 0 _ _ v5 h,⟨ho.1,?_⟩,hb.setCell hg _,hg⟩
 rcases ho.2 with h3 | ⟨b,cap,cur,hv,hg2,hh,r⟩
 ·exact .inl h3
 ·refine .inr ⟨b,cap,cur,hv,hg2,?_,r⟩
  rw[Below.heap_setCell _ _ _ _ (fun e=>hne (by rw[hv,e];rfl))]
  exact hh
theorem nm_below {w0 w:World} {g:Nat} {l:List ByteArray} (h:NmS w0 w g l):Below w0.heap.size w0 w:=by
 obtain⟨_,_,_,hb,_⟩:=h
 exact hb
theorem shape_ff (k:Int) (h:(shapeK k).f=true):k=14:=by
 unfold shapeK at h
 by_cases h14:k=14
 ·exact h14
 ·rw[if_neg (show ¬ (k=14) from h14)] at h
  exact absurd h (by split <;> (try split) <;> (try split) <;> (try split) <;> (try split) <;> (try split) <;> (try split) <;> (try split) <;> (try split) <;> (try split) <;> (try split) <;> simp)
theorem form_fs {t:Ty} (h:formT t=true):∀ f∈t.fs,formT f.2.2=true:=fun f hf=>by
 by_cases hk:t.k=14
 ·exact (fieldsB_mem (form_fields h hk) hf).2.2.2
 ·obtain⟨k,s,n,ps,fs,vs⟩:=t
  have hfit:=form_fits h
  have hs:(shapeK k).f=false:=by
   cases e:(shapeK k).f with
   | false=>rfl
   | true=>exact absurd (shape_ff k e) hk
  unfold fitsB at hfit
  rw[hs] at hfit
  simp only[Bool.and_eq_true,Bool.not_eq_true',Bool.or_eq_false_iff,Bool.not_false,Bool.true_and,decide_eq_false_iff_not] at hfit
  have h0:fs=[]:=List.eq_nil_of_length_eq_zero (by have:=hfit.1.1.2;omega)
  rw[show (Ty.mk k s n ps fs vs).fs=fs from rfl,h0] at hf
  cases hf
theorem form_22 {t:ByteArray} {n:Int} {ps:List Ty} {fs:FsT} {vs:VsT} (h:formT (.mk 22 t n ps fs vs)=true):ps=[]∧fs=[]:=by
 have hf:=form_fits h
 have hs:shapeK 22=⟨true,false,false,false,0,0,true⟩:=rfl
 rw[hs] at hf
 unfold fitsB at hf
 simp only[Bool.and_eq_true,Bool.not_eq_true',Bool.or_eq_false_iff,Bool.or_eq_true,decide_eq_true_eq,beq_iff_eq,Bool.not_false,Bool.true_and,decide_eq_false_iff_not] at hf
 obtain⟨⟨⟨⟨h1,h2⟩,h3⟩,h4⟩,h5,h6⟩:=hf
 exact⟨List.eq_nil_of_length_eq_zero (by omega),List.eq_nil_of_length_eq_zero (by omega)⟩
theorem infs_step (k:Int) (s:ByteArray) (n:Int) (ps:List Ty) (fs:FsT) (vs:VsT) (hp:∀ p∈ps,InfsP p) (hf:∀ f∈fs,InfsP f.2.2):InfsP (.mk k s n ps fs vs):=by
 intro K w0 w b o g l hT hform hN hlen
 obtain⟨A,c,A2,c2,A3,c3,⟨x0,x1,x2,x3,x4,x5⟩,-,hLp,hLf,-⟩:=hT.six
 have hlp:=hLp.short
 have hlf:=hLf.shortF
 have HXX:Hid (∀ wx,Below w0.heap.size w0 wx→wx.cell? ⟨b,o+3,none⟩=some (.slice A ps.length c)∧wx.cell? ⟨b,o+4,none⟩=some (.slice A2 fs.length c2)):=Hd fun wx hx=>⟨cell_stays hx x3,cell_stays hx x4⟩
 by_cases hk:k=22
 ·subst hk
  obtain⟨rfl,rfl⟩:=form_22 hform
  have hna:namesI (.mk 22 s n [] [] vs)=[s]:=by rw[namesI_mk,if_pos rfl]
  rw[hna] at hlen ⊢
  obtain⟨v,hv,hO,hb,hg⟩:=hN
  have y0:=cell_stays hb x0
  have HX1:=Hd x1
  have HBX:Hid (w.heap[g]?=some (.cells #[v] 46 (0,0))):=Hd hv
  have HO:=Hd hO
  have HB0:=Hd hb
  have HGL:=Hd hg
  have HLN:Hid (l.length+1≤1099511627776):=Hd hlen
  simp only[List.length_nil] at x3 x4 HXX
  clear hT hform hlen hna hv hO hb hg x0 x1 x2 x3 x4 x5 hLp hLf hp hf hlp hlf
  go_enter Tryz.func132,Tryz.ntmps132
  go_upto_region 1 with fail
  clear y0
  refine wp_region_held_drew (S:=(fun w'=>w'.cell? ⟨b,o+1,none⟩=some (.string s)∧(w'.cell? ⟨g,0,none⟩).isSome=true∧w'.frozen? ⟨g,0,none⟩=false)) (by kernel_rfl) (⟨cell_stays HB0.out.drew HX1.out,by rw[show w.drew.cell? ⟨g,0,none⟩=w.cell? ⟨g,0,none⟩ from rfl,Ch HBX.out 0];rfl,Lib.frozen_of_heap (w:=w.drew) HBX.out 0⟩) (fun hHeld=>?_)
  refine Plan.start [0,1,2,4,5,6,7] ?_
  iterate 7 (refine Plan.tk (so rfl) hHeld ?_;try simp only[Act.put,pz1,pz2,pz3])
  refine Plan.done ?_
  refine wpAnyH_ready (rs:=[3,8]) (by kernel_rfl) (by simp) ?_
  refine AllReadyH.cons (sd (some 14) rfl) (fun Kx hK=>?_) (AllReadyH.cons (sd (some 19) rfl) (fun Kx hK=>?_) AllReadyH.nil)
  ·go_simp
   have lz:w.cell? ⟨g,0,none⟩=some v:=Ch HBX.out 0
   go_simp
   clear lz
   refine hK.out _ _ (⟨cell_stays HB0.out.drew HX1.out,by rw[Ch (w:=w.drew) HBX.out 0];rfl,Lib.frozen_of_heap (w:=w.drew) HBX.out 0⟩) (fun hHeld=>?_)
   clear hK Kx
   try simp only[Act.put,pz1,pz2,pz3]
   refine wpAnyH_ready (rs:=[8]) (by kernel_rfl) (by simp) ?_
   refine AllReadyH.cons (sd (some 19) rfl) (fun Kx hK=>?_) AllReadyH.nil
   go_simp
   generalize hW:(w.alloc (.cells #[.string s] 9)).drew=w1
   have hb:Below w.heap.size w w1:=by rw[←hW];exact ((Below.refl _ _).alloc (Nat.le_refl _) _).drew
   have rs:w1.heap[w.heap.size]?=some (.cells #[.string s] 9 (0,0)):=by rw[←hW];exact heap_alloc_new w _
   have HBW:=Hd hb
   have HX:=Hd rs
   have HV1:=Hd (box_up hb (Array.getElem?_eq_some_iff.1 HBX.out).1 HBX.out)
   have HB1:=Hd (HB0.out.trans (hb.mono HB0.out.size))
   clear hW hb rs
   refine hK.out _ _ (⟨cell_stays HB1.out HX1.out,by rw[Ch HV1.out 0];rfl,Lib.frozen_of_heap HV1.out 0⟩) (fun hHeld=>?_)
   clear hK Kx
   try simp only[Act.put,pz1,pz2,pz3]
   refine wpAnyH_ready (rs:=[9]) (by kernel_rfl) (by simp) ?_
   refine AllReadyH.cons (sd (some 20) rfl) (fun Kx hK=>?_) AllReadyH.nil
   rw[if_pos (by rfl)]
   refine wp_append_s (B:=w0.heap.size) (l:=l) (s:=s) _ _ rfl rfl rfl (HO.out.later HBW.out) (Ch HX.out 0) (Nat.le_trans HB0.out.size HBW.out.size) HLN.out ?_
   intro v5 w5 ho5 hg5 _
   obtain⟨A5,c5,hv5,-⟩:=sliceT ho5
   rw[show (l++[s]).length=l.length+1 by simp] at hv5
   subst hv5
   have HO5:=Hd ho5
   have HV5:Hid (w5.heap[g]?=some (.cells #[v] 46 (0,0))):=Hd ((hg5.block g (Array.getElem?_eq_some_iff.1 HV1.out).1 (fun e=>nm_apart HBX.out HO.out e.symm)).trans HV1.out)
   have HB5:=Hd (HB1.out.grown hg5 HB1.out.size (out_lo HO.out))
   clear ho5 hg5
   refine hK.out _ _ (⟨cell_stays HB5.out HX1.out,by rw[Ch HV5.out 0];rfl,Lib.frozen_of_heap HV5.out 0⟩) (fun hHeld=>?_)
   clear hK Kx
   try simp only[Act.put,pz1,pz2,pz3]
   refine Plan.start [10] ?_
   refine Plan.tk (so rfl) hHeld ?_
   try simp only[Act.put,pz1,pz2,pz3]
   refine Plan.done ?_
   refine wpAnyH_ready (rs:=[11]) (by kernel_rfl) (by simp) ?_
   refine AllReadyH.cons (sd none rfl) (fun Kx hK=>?_) AllReadyH.nil
   go_simp
   have HN6:Hid (NmS w0 (w5.setCell ⟨g,0,none⟩ (.slice A5 (l.length+1) c5)) g (l++[s])):=Hd (nm_store HV5.out HO5.out HB5.out HGL.out)
   have HV6:Hid ((w5.setCell ⟨g,0,none⟩ (.slice A5 (l.length+1) c5)).heap[g]?=some (.cells #[.slice A5 (l.length+1) c5] 46 (0,0))):=Hd (Go.heap_setCell_same w5 g 0 _ _ _ HV5.out)
   have lz:w5.cell? ⟨g,0,none⟩=some v:=Ch HV5.out 0
   have lf:=Lib.frozen_of_heap HV5.out 0
   go_simp
   clear lz lf
   refine hK.out _ _ (⟨cell_stays (nm_below HN6.out) HX1.out,by rw[Ch HV6.out 0];rfl,Lib.frozen_of_heap HV6.out 0⟩) (fun hHeld=>?_)
   clear hK Kx
   try simp only[Act.put,pz1,pz2,pz3]
   refine wpAnyH_done (by kernel_rfl) ?_ _
   clear hHeld
   obtain⟨z3,z4⟩:=HXX.out _ (nm_below HN6.out)
   generalize hw9:w5.setCell ⟨g,0,none⟩ (.slice A5 (l.length+1) c5)=w9 at HN6 z3 z4
   clear hw9
   go_wp2_with fail
   go_loopw [27] (fun v wr=>v=.int .i64 0∧wr=w9) (fun v _=>0)
   case atStart=>exact⟨rfl,rfl⟩
   case round=>
    obtain⟨rfl,rfl⟩:=hrel
    go_wp2_with fail
    go_loopw [48] (fun v wx=>v=.int .i64 0∧wx=wr) (fun v _=>0)
    case atStart=>exact⟨rfl,rfl⟩
    case round=>
     obtain⟨rfl,rfl⟩:=hrel
     go_wp2_with fail
     exact bodyPost_end (v:=.tuple #[]) (by simp[results,Tryz.results132,go_sem]) rfl ⟨rfl,HN6.out⟩
  ·go_simp
   generalize hW:(w.alloc (.cells #[.string s] 9)).drew=w1
   have hb:Below w.heap.size w w1:=by rw[←hW];exact ((Below.refl _ _).alloc (Nat.le_refl _) _).drew
   have rs:w1.heap[w.heap.size]?=some (.cells #[.string s] 9 (0,0)):=by rw[←hW];exact heap_alloc_new w _
   have HBW:=Hd hb
   have HX:=Hd rs
   have HV1:=Hd (box_up hb (Array.getElem?_eq_some_iff.1 HBX.out).1 HBX.out)
   have HB1:=Hd (HB0.out.trans (hb.mono HB0.out.size))
   clear hW hb rs
   refine hK.out _ _ (⟨cell_stays HB1.out HX1.out,by rw[Ch HV1.out 0];rfl,Lib.frozen_of_heap HV1.out 0⟩) (fun hHeld=>?_)
   clear hK Kx
   try simp only[Act.put,pz1,pz2,pz3]
   refine wpAnyH_ready (rs:=[3]) (by kernel_rfl) (by simp) ?_
   refine AllReadyH.cons (sd (some 14) rfl) (fun Kx hK=>?_) AllReadyH.nil
   go_simp
   have lz:w1.cell? ⟨g,0,none⟩=some v:=Ch HV1.out 0
   go_simp
   clear lz
   refine hK.out _ _ (⟨cell_stays HB1.out HX1.out,by rw[Ch HV1.out 0];rfl,Lib.frozen_of_heap HV1.out 0⟩) (fun hHeld=>?_)
   clear hK Kx
   try simp only[Act.put,pz1,pz2,pz3]
   refine wpAnyH_ready (rs:=[9]) (by kernel_rfl) (by simp) ?_
   refine AllReadyH.cons (sd (some 20) rfl) (fun Kx hK=>?_) AllReadyH.nil
   rw[if_pos (by rfl)]
   refine wp_append_s (B:=w0.heap.size) (l:=l) (s:=s) _ _ rfl rfl rfl (HO.out.later HBW.out) (Ch HX.out 0) (Nat.le_trans HB0.out.size HBW.out.size) HLN.out ?_
   intro v5 w5 ho5 hg5 _
   obtain⟨A5,c5,hv5,-⟩:=sliceT ho5
   rw[show (l++[s]).length=l.length+1 by simp] at hv5
   subst hv5
   have HO5:=Hd ho5
   have HV5:Hid (w5.heap[g]?=some (.cells #[v] 46 (0,0))):=Hd ((hg5.block g (Array.getElem?_eq_some_iff.1 HV1.out).1 (fun e=>nm_apart HBX.out HO.out e.symm)).trans HV1.out)
   have HB5:=Hd (HB1.out.grown hg5 HB1.out.size (out_lo HO.out))
   clear ho5 hg5
   refine hK.out _ _ (⟨cell_stays HB5.out HX1.out,by rw[Ch HV5.out 0];rfl,Lib.frozen_of_heap HV5.out 0⟩) (fun hHeld=>?_)
   clear hK Kx
   try simp only[Act.put,pz1,pz2,pz3]
   refine Plan.start [10] ?_
   refine Plan.tk (so rfl) hHeld ?_
   try simp only[Act.put,pz1,pz2,pz3]
   refine Plan.done ?_
   refine wpAnyH_ready (rs:=[11]) (by kernel_rfl) (by simp) ?_
   refine AllReadyH.cons (sd none rfl) (fun Kx hK=>?_) AllReadyH.nil
   go_simp
   have HN6:Hid (NmS w0 (w5.setCell ⟨g,0,none⟩ (.slice A5 (l.length+1) c5)) g (l++[s])):=Hd (nm_store HV5.out HO5.out HB5.out HGL.out)
   have HV6:Hid ((w5.setCell ⟨g,0,none⟩ (.slice A5 (l.length+1) c5)).heap[g]?=some (.cells #[.slice A5 (l.length+1) c5] 46 (0,0))):=Hd (Go.heap_setCell_same w5 g 0 _ _ _ HV5.out)
   have lz:w5.cell? ⟨g,0,none⟩=some v:=Ch HV5.out 0
   have lf:=Lib.frozen_of_heap HV5.out 0
   go_simp
   clear lz lf
   refine hK.out _ _ (⟨cell_stays (nm_below HN6.out) HX1.out,by rw[Ch HV6.out 0];rfl,Lib.frozen_of_heap HV6.out 0⟩) (fun hHeld=>?_)
   clear hK Kx
   try simp only[Act.put,pz1,pz2,pz3]
   refine wpAnyH_done (by kernel_rfl) ?_ _
   clear hHeld
   obtain⟨z3,z4⟩:=HXX.out _ (nm_below HN6.out)
   generalize hw9:w5.setCell ⟨g,0,none⟩ (.slice A5 (l.length+1) c5)=w9 at HN6 z3 z4
   clear hw9
   go_wp2_with fail
   go_loopw [27] (fun v wr=>v=.int .i64 0∧wr=w9) (fun v _=>0)
   case atStart=>exact⟨rfl,rfl⟩
   case round=>
    obtain⟨rfl,rfl⟩:=hrel
    go_wp2_with fail
    go_loopw [48] (fun v wx=>v=.int .i64 0∧wx=wr) (fun v _=>0)
    case atStart=>exact⟨rfl,rfl⟩
    case round=>
     obtain⟨rfl,rfl⟩:=hrel
     go_wp2_with fail
     exact bodyPost_end (v:=.tuple #[]) (by simp[results,Tryz.results132,go_sem]) rfl ⟨rfl,HN6.out⟩
 ·have te:(k == 22)=false:=by simpa using hk
  have hna:namesI (.mk k s n ps fs vs)=namesP k 0 ps++namesF fs:=by rw[namesI_mk,if_neg hk]
  rw[hna] at hlen ⊢
  have PT:Hid (∀ wx,Below w0.heap.size w0 wx→∀ i:Nat,Calls Tryz.prog 97 #[.pointer (some ⟨b,o,none⟩),.int .i64 i] wx fun e w'=>e=.returned (.bool (k == 21 && i == 1))∧w'=wx):=Hd fun wx hx i=>pattern_any (cell_stays hx x0) i
  have HP:Hid (∀ i (hi:i<ps.length),∃ pb po,A=some ⟨pb,po,none⟩∧∀ wx l',NmS w0 wx g l'→l'.length+(namesI ps[i]).length≤1099511627776→Calls Tryz.prog 132 #[.pointer (some ⟨pb,po+i*6,none⟩),.pointer (some ⟨g,0,none⟩)] wx fun e w'=>e=.returned (.tuple #[])∧NmS w0 w' g (l'++namesI ps[i])):=Hd fun i hi=>by
   obtain⟨pb,po,hA,_,hat⟩:=hLp.at (by omega)
   exact⟨pb,po,hA,fun wx l' hn hl=>hp _ (List.getElem_mem hi) K w0 wx pb (po+i*6) g l' (hat i hi) (form_ps hform _ (List.getElem_mem hi)) hn hl⟩
  have HF:Hid (∀ i (hi:i<fs.length),∃ pb po,A2=some ⟨pb,po,none⟩∧∀ wx l',NmS w0 wx g l'→l'.length+(namesI fs[i].2.2).length≤1099511627776→Calls Tryz.prog 132 #[.pointer (some ⟨pb,po+i*8+2,none⟩),.pointer (some ⟨g,0,none⟩)] wx fun e w'=>e=.returned (.tuple #[])∧NmS w0 w' g (l'++namesI fs[i].2.2)):=Hd fun i hi=>by
   obtain⟨pb,po,hA,_,hat⟩:=hLf.at (by omega)
   exact⟨pb,po,hA,fun wx l' hn hl=>hf _ (List.getElem_mem hi) K w0 wx pb (po+i*8+2) g l' (hat i hi).2.2.2 (form_fs hform _ (List.getElem_mem hi)) hn hl⟩
  have y0:=cell_stays (nm_below hN) x0
  have y3:=cell_stays (nm_below hN) x3
  have HST:=Hd hN
  have HLN:=Hd hlen
  clear hT hform hlen hna hN x0 x1 x2 x3 x4 x5 hLp hLf hp hf hk
  go_enter Tryz.func132,Tryz.ntmps132
  go_wp2_with fail
  clear y0 y3
  go_loopw [27] (fun v wr=>∃ (i:Nat) (N:List ByteArray),i≤ps.length∧v=.int .i64 i∧N++namesP k i (ps.drop i)=namesP k 0 ps∧NmS w0 wr g (l++N)) (fun v _=>ps.length - (intOf v).toNat)
  case atStart=>exact⟨0,[],by omega,rfl,by rw[List.drop_zero];rfl,by rw[List.append_nil];exact HST.out⟩
  case round=>
   obtain⟨i,N,hi,rfl,he,hn⟩:=hrel
   have HE:=Hd he
   have HN:=Hd hn
   obtain⟨z3,z4⟩:=HXX.out _ (nm_below hn)
   have PI:=Hd (PT.out _ (nm_below hn) i)
   clear he hn
   by_cases hin:i<ps.length
   ·have t1:decide ((i:Int)<(ps.length:Int))=true:=by simp;omega
    have wr2:wrap64 ((i:Int)+1)=((i+1:Nat):Int):=wrap_one (by omega)
    have i1:(0:Int)≤(i:Int):=by omega
    have i2:(i:Int)<(ps.length:Int):=by omega
    have HM:=Hd (measI hin)
    have HIn:Hid (i+1≤ps.length):=Hd hin
    obtain⟨pb,po,hA,hcall⟩:=HP.out i hin
    subst hA
    have hdrop:=namesP_drop (k:=k) hin
    have HC:Hid ((k == 21 && i == 1)=false→Calls Tryz.prog 132 #[.pointer (some ⟨pb,po+i*6,none⟩),.pointer (some ⟨g,0,none⟩)] _ fun e w'=>e=.returned (.tuple #[])∧NmS w0 w' g ((l++N)++namesI ps[i])):=Hd fun hq=>hcall _ _ HN.out (by
     have h1:=HLN.out
     rw[←HE.out,hdrop,hq,if_neg (by decide)] at h1
     simp only[List.length_append] at h1 ⊢
     omega)
    have HS:=Hd hdrop
    generalize hq:(k == 21 && i == 1)=q at PI HS HC
    clear hcall hdrop hq hi
    go_wp2_with fail
    refine PI.out.mono ?_
    rintro e w2 ⟨rfl,hw⟩;obtain rfl:=hw.symm
    cases q with
    | true=>
     go_wp2_with fail
     refine⟨⟨i+1,N,HIn.out,by first | rfl | rw[wr2],by rw[←HE.out,HS.out];simp,HN.out⟩,?_⟩
     first | exact HM.out | (rw[wr2];exact HM.out)
    | false=>
     go_wp2_with fail
     refine (HC.out trivial).mono ?_
     rintro e w3 ⟨rfl,hn3⟩
     have HN3:=Hd hn3
     clear hn3
     go_wp2_with fail
     refine⟨⟨i+1,N++namesI (ps[i]'HIn.out),HIn.out,by first | rfl | rw[wr2],by rw[←HE.out,HS.out];simp,by rw[←List.append_assoc];exact HN3.out⟩,?_⟩
     first | exact HM.out | (rw[wr2];exact HM.out)
   ·have t1:decide ((i:Int)<(ps.length:Int))=false:=by simp;omega
    have HE1:Hid (N=namesP k 0 ps):=Hd (by rw[←HE.out,List.drop_eq_nil_of_le (by omega),namesP,List.append_nil])
    clear hi PI
    go_wp2_with fail
    clear z3 z4
    have HN0:=Hd HN.out
    go_loopw [48] (fun v wx=>∃ (i:Nat) (M:List ByteArray),i≤fs.length∧v=.int .i64 i∧M++namesF (fs.drop i)=namesF fs∧NmS w0 wx g ((l++N)++M)) (fun v _=>fs.length - (intOf v).toNat)
    case atStart=>exact⟨0,[],by omega,rfl,by rw[List.drop_zero];rfl,by rw[List.append_nil];exact HN0.out⟩
    case round=>
     obtain⟨i,M,hi,rfl,he,hn⟩:=hrel
     have HE:=Hd he
     have HN:=Hd hn
     obtain⟨z3,z4⟩:=HXX.out _ (nm_below hn)
     clear he hn
     by_cases hin:i<fs.length
     ·have t1:decide ((i:Int)<(fs.length:Int))=true:=by simp;omega
      have wr2:wrap64 ((i:Int)+1)=((i+1:Nat):Int):=wrap_one (by omega)
      have i1:(0:Int)≤(i:Int):=by omega
      have i2:(i:Int)<(fs.length:Int):=by omega
      have HM:=Hd (measI hin)
      have HIn:Hid (i+1≤fs.length):=Hd hin
      obtain⟨pb,po,hA,hcall⟩:=HF.out i hin
      subst hA
      have hdrop:=namesF_drop hin
      have HC:=Hd (hcall _ _ HN.out (by
       have h1:=HLN.out
       rw[←HE1.out,←HE.out,hdrop] at h1
       simp only[List.length_append] at h1 ⊢
       omega))
      have HS:=Hd hdrop
      clear hcall hdrop hi
      go_wp2_with fail
      refine HC.out.mono ?_
      rintro e w3 ⟨rfl,hn3⟩
      have HN3:=Hd hn3
      clear hn3
      go_wp2_with fail
      refine⟨⟨i+1,M++namesI (fs[i]'HIn.out).2.2,HIn.out,by first | rfl | rw[wr2],by rw[←HE.out,HS.out,List.append_assoc],by rw[←List.append_assoc];exact HN3.out⟩,?_⟩
      first | exact HM.out | (rw[wr2];exact HM.out)
     ·have t1:decide ((i:Int)<(fs.length:Int))=false:=by simp;omega
      have HE2:Hid (M=namesF fs):=Hd (by rw[←HE.out,List.drop_eq_nil_of_le (by omega)];simp[namesF])
      clear hi
      go_wp2_with fail
      exact bodyPost_end (v:=.tuple #[]) (by simp[results,Tryz.results132,go_sem]) rfl ⟨rfl,by rw[←HE1.out,←HE2.out,←List.append_assoc];exact HN.out⟩
theorem infs_any (t:Ty):InfsP t:=Ty.ind (C:=InfsP) (fun k t n ps fs vs hp hf _=>infs_step k t n ps fs vs hp hf) t
structure FPre (k:Int) (t:ByteArray) (n:Int) (ps:List Ty) (fs:FsT) (vs:VsT) (K:Nat→Prop) (w:World) (A:Option Addr) (c:Nat) (A':Option Addr) (c':Nat) (A'':Option Addr) (c'':Nat) (w1:World):Prop where
 HXC:Hid (∀ wx,Below w1.heap.size w1 wx→wx.cell? ⟨w.heap.size,0,none⟩=some (.int .i64 k)∧wx.cell? ⟨w.heap.size,1,none⟩=some (.string t)∧wx.cell? ⟨w.heap.size,2,none⟩=some (.int .i64 n)∧wx.cell? ⟨w.heap.size,3,none⟩=some (.slice A ps.length c)∧wx.cell? ⟨w.heap.size,4,none⟩=some (.slice A' fs.length c')∧wx.cell? ⟨w.heap.size,5,none⟩=some (.slice A'' vs.length c''))
 KAll:Hid (∀ wx,Below w1.heap.size w1 wx→Calls Tryz.prog 69 #[.slice A ps.length c] wx fun e w'=>e=.returned (.bool (ps.all formT))∧Below wx.heap.size wx w')
 KPl:Hid (∀ wx,Calls Tryz.prog 70 #[.agg #[.int .i64 k,.string t,.int .i64 n,.slice A ps.length c,.slice A' fs.length c',.slice A'' vs.length c'']] wx fun e w'=>e=.returned (.bool (t.toList == [] && n == 0))∧Below wx.heap.size wx w')
 KNm:Hid (∀ wx,Calls Tryz.prog 16 #[.string t] wx fun e w'=>e=.returned (.bool (nameT t))∧Below wx.heap.size wx w')
 KOb:Hid (∀ wx,Below w1.heap.size w1 wx→Calls Tryz.prog 72 #[.slice A' fs.length c'] wx fun e w'=>e=.returned (.bool (fieldsB (fieldsT fs formT)))∧Below wx.heap.size wx w')
 KBi:Hid (∀ wx,Below w1.heap.size w1 wx→Calls Tryz.prog 71 #[.slice A'' vs.length c''] wx fun e w'=>e=.returned (.bool (varsB (varsT vs formT)))∧Below wx.heap.size wx w')
 KOv:Hid (∀ wx,Below w1.heap.size w1 wx→Calls Tryz.prog 73 #[.slice A ps.length c] wx fun e w'=>e=.returned (.bool (overT ps))∧w'=wx)
 HREP:Hid (RepT K w (.mk k t n ps fs vs) [.int .i64 k,.string t,.int .i64 n,.slice A ps.length c,.slice A' fs.length c',.slice A'' vs.length c''])
 HCN:Hid (1+(cntL ps+(cntF fs+cntV vs))≤1000000)
 HBZ:Hid (Below w.heap.size w w1)
 HB:Hid (Below w1.heap.size w1 w1)
 HS1:Hid (w1.heap.size=w.heap.size+1)
 HX0:Hid (w1.heap[w.heap.size]?=some (.cells #[.int .i64 k,.string t,.int .i64 n,.slice A ps.length c,.slice A' fs.length c',.slice A'' vs.length c''] 26 (0,0)))
 HW1:Hid (w1=w.alloc (.cells #[.int .i64 k,.string t,.int .i64 n,.slice A ps.length c,.slice A' fs.length c',.slice A'' vs.length c''] 26))
 hlp:ps.length≤1000000000000000
 hlf:fs.length≤1000000000000000
 hlv:vs.length≤1000000000000000
theorem form_pre (k:Int) (t:ByteArray) (n:Int) (ps:List Ty) (fs:FsT) (vs:VsT) (hp:∀ p∈ps,FormR p) (hf:∀ f∈fs,FormR f.2.2) (hv:∀ v∈vs,∀ b∈v.2,FormR b)
  (main:∀ (K:Nat→Prop) (w:World) (A:Option Addr) (c:Nat) (A':Option Addr) (c':Nat) (A'':Option Addr) (c'':Nat) (w1:World),FPre k t n ps fs vs K w A c A' c' A'' c'' w1 →
   Calls Tryz.prog 38 #[.agg #[.int .i64 k,.string t,.int .i64 n,.slice A ps.length c,.slice A' fs.length c',.slice A'' vs.length c'']] w fun e w'=>e=.returned (.bool (formT (.mk k t n ps fs vs)))∧Below w.heap.size w w'):FormR (.mk k t n ps fs vs):=by
 intro K w cs hrep hc
 obtain⟨A,c,A',c',A'',c'',rfl,hts,hL,hF,hV⟩:=hrep.inv
 simp only[cells6T]
 obtain⟨w1,hw1⟩:∃ x,x=w.alloc (.cells #[.int .i64 k,.string t,.int .i64 n,.slice A ps.length c,.slice A' fs.length c',.slice A'' vs.length c''] 26):=⟨_,rfl⟩
 have hb1:Below w.heap.size w w1:=by rw[hw1];exact (Below.refl _ _).alloc (Nat.le_refl _) _
 have hs1:w1.heap.size=w.heap.size+1:=by rw[hw1];simp
 have hx0:w1.heap[w.heap.size]?=some (.cells #[.int .i64 k,.string t,.int .i64 n,.slice A ps.length c,.slice A' fs.length c',.slice A'' vs.length c''] 26 (0,0)):=by rw[hw1];exact heap_alloc_new w _
 have HXC:Hid (∀ wx,Below w1.heap.size w1 wx→wx.cell? ⟨w.heap.size,0,none⟩=some (.int .i64 k)∧wx.cell? ⟨w.heap.size,1,none⟩=some (.string t)∧wx.cell? ⟨w.heap.size,2,none⟩=some (.int .i64 n)∧wx.cell? ⟨w.heap.size,3,none⟩=some (.slice A ps.length c)∧wx.cell? ⟨w.heap.size,4,none⟩=some (.slice A' fs.length c')∧wx.cell? ⟨w.heap.size,5,none⟩=some (.slice A'' vs.length c'')):=Hd fun wx hx=>by
  have h:=box_up hx (by omega) hx0
  exact⟨Ch h 0,Ch h 1,Ch h 2,Ch h 3,Ch h 4,Ch h 5⟩
 have hcn:1+(cntL ps+(cntF fs+cntV vs))≤1000000:=by rw[←cntT_mk k t n ps fs vs];exact hc
 have KAll:=Hd fun wx (hx:Below w1.heap.size w1 wx)=>all_ref ps hp (hL.later (hb1.trans (hx.mono hb1.size))) (by omega)
 have KPl:=Hd fun wx=>plain_ref (w:=wx) k t n A ps.length c A' fs.length c' A'' vs.length c''
 have KNm:=Hd fun wx=>name_ref t wx hts
 have KOb:=Hd fun wx (hx:Below w1.heap.size w1 wx)=>object_ref fs hf (hF.later (hb1.trans (hx.mono hb1.size))) (by omega)
 have hlv:vs.length≤1000000000000000:=by obtain⟨_,_,hr,_⟩:=hV;exact hr.big
 have KBi:=Hd fun wx (hx:Below w1.heap.size w1 wx)=>binds_ref vs hv (hV.later (hb1.trans (hx.mono hb1.size))) hlv (by omega)
 have KOv:=Hd fun wx (hx:Below w1.heap.size w1 wx)=>over_ref (hL.later (hb1.trans (hx.mono hb1.size)))
 have HREP:=Hd hrep
 have HL:=Hd hL
 have HCN:=Hd hcn
 have HBZ:=Hd hb1
 have HB:Hid (Below w1.heap.size w1 w1):=Hd (Below.refl _ _)
 have HS1:=Hd hs1
 have HX0:=Hd hx0
 have HW1:=Hd hw1
 have hlp:=hL.short
 have hlf:=hF.shortF
 have HP:=Hd hp
 have HF':=Hd hf
 have HV':=Hd hv
 exact main K w A c A' c' A'' c'' w1 ⟨HXC,KAll,KPl,KNm,KOb,KBi,KOv,HREP,HCN,HBZ,HB,HS1,HX0,HW1,hlp,hlf,hlv⟩
end Go.Proofs.YtlpfpehegddcfaaGreatDoor
