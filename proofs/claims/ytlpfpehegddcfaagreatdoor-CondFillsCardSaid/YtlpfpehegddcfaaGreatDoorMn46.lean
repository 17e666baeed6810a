import Derived.Test.YtlpfpehegddcfaaGreatDoorMn44
namespace Go.Proofs.YtlpfpehegddcfaaGreatDoor
set_option maxRecDepth 100000
set_option maxHeartbeats 64000000
open Go.RowKit
theorem cfill_q {K K':Nat→Prop} {m bp op n0:Nat} {w:World} {k:Int} {s:ByteArray} {n:Int} {ps:List Ty} {fs:FsT} {vs:VsT} {V:Nat→Value} {h0:V 0=.agg #[.int .i64 0,.string ⟨#[]⟩,.int .i64 0,.slice none 0 0,.slice none 0 0,.slice none 0 0]} {L:List (ByteArray×Ty)} {F:ByteArray→Option Ty} (hz2:fs.length=0) (hct:cntT (.mk k s n ps fs vs)≤4096) (ha:AtT K w (.mk k s n ps fs vs) bp op) (hbp:bp≠m+1) (hK:∀ x,K x∨K' x→x<w.heap.size∧x≠m+1) (hfil:FilM K' w m n0 V h0 L) (hn0:n0≤1000000000000) (hn:n0≤4096) (hfm:formT (.mk k s n ps fs vs)=true) (hinf:infT (.mk k s n ps fs vs)=true) (hF:∀ s u,F s=some u→formT u=true) (hN:k=22→firstN L s=none∧F s=none)
  (ihp:∀ p∈ps,CIh K K' m V h0 L F p) :
  Calls Tryz.prog 36 #[.pointer (some ⟨m+1,0,none⟩),.pointer (some ⟨bp,op,none⟩)] w (CFillA (fun x=>(K x∨K' x)∨w.heap.size≤x) m w F (.mk k s n ps fs vs) n0):=by
 have t1'':¬ 4096<n0:=Nat.not_lt.2 hn
 have t1':¬ (4096:Int)<(n0:Int):=fun h=>t1'' (Int.ofNat_lt.1 h)
 have t1:decide ((4096:Int)<(n0:Int))=false:=decide_eq_false t1'
 obtain⟨hnd,htd⟩:=fill_else (F:=F) (k:=k) (s:=s) (n:=n) (ps:=ps) (fs:=fs) (vs:=vs) fun h=>(hN h).2
 generalize hNT:fillN F (.mk k s n ps fs vs)=NT
 generalize hUT:fillT F (.mk k s n ps fs vs)=UT
 obtain⟨PO,hPO⟩:∃ PO:Ending→World→Prop,PO=CFillA (fun x=>(K x∨K' x)∨w.heap.size≤x) m w F (.mk k s n ps fs vs) n0:=⟨_,rfl⟩
 have HFIN:Hid (∀ e w',(∃ (rs:List Value) (u:Ty) (n1:Nat),e=.returned (.agg rs.toArray)∧RepT (fun x=>(K x∨K' x)∨w.heap.size≤x) w' u rs∧w'.heap[m+1]?=some (.cells #[.map (some m),.int .i64 n1] 69 (0,0))∧(n0+NT≤4096→n1=n0+NT∧u=UT)∧(4096<n0+NT→4096<n1)∧n1≤n0+cntT (.mk k s n ps fs vs)*4097∧cntT u≤cntT (.mk k s n ps fs vs)*4097∧ButG (fun x=>x=m+1) w w')→PO e w'):=Hd fun e w' h=>by
  rw[hPO]
  unfold CFillA
  rw[hNT,hUT]
  exact h
 rw[←hPO]
 have hmw:m+1<w.heap.size:=(Array.getElem?_eq_some_iff.1 hfil.box).1
 refine cf_pre ha hbp (fun x hx=>hK x (.inl hx)) hmw fun A c B d C e w1 g h=>?_
 obtain⟨HX,HY,HB1,HS1,HG,HW1,HP,HFS,HVS,HTS,HMG,HRP⟩:=h
 have HC1:=Hd (box_up HB1.out hmw hfil.box)
 have HKK:=Hd hK
 have HCT:=Hd hct
 have HN0:=Hd hn0
 have HND:Hid (NT=_∧UT=_):=Hd ⟨hNT.symm.trans hnd,hUT.symm.trans htd⟩
 have HCM:Hid (cntT (.mk k s n ps fs vs)=1+(cntL ps+(cntF fs+cntV vs))):=Hd (cntT_mk ..)
 have hlps:=lenJ ps
 have hlfs:=lenFJ fs
 have HC4:Hid (1+(cntL ps+(cntF fs+cntV vs))≤4096∧ps.length≤4096∧fs.length≤4096):=Hd (by rw[cntT_mk] at hct;exact⟨hct,by omega,by omega⟩)
 have HN4:=Hd hn
 have HFM:=Hd hfm
 have HFF:=Hd hF
 have HIH:=Hd ihp
 obtain⟨LF,MF,hLF⟩:=fill_parts F k n0 ps
 have HLF:=Hd hLF
 have HFIL:Hid (∀ (wx:World) (nn:Nat),ButG (fun x=>x=m+1) w1 wx→wx.heap[m+1]?=some (.cells #[.map (some m),.int .i64 nn] 69 (0,0))→FilM K' wx m nn V h0 L):=Hd fun wx nn hx hc=>hfil.to ((ButG.of_below HB1.out).trans hx fun _ h=>.inl h) hc fun x h=>(hK x (.inr h)).2
 obtain⟨k7,s7,n7,A7,a7,c7,B7,b7,d7,C7,z7,e7,hval⟩:=val_tys (h0:=h0) hfil.val (firstN L s) fun j hj=>firstN_le _ _ _ hj
 obtain⟨tw,htw⟩:∃ tw,tw=(firstN L s).isSome:=⟨_,rfl⟩
 have HMP0:=Hd hfil.map
 have HLK:Hid (∀ wx,Below w1.heap.size w1 wx→(Instr.lookup 67 (.map (some m)) (.string s) true).run Tryz.prog wx=.ok (.tuple #[.agg #[.int .i64 k7,.string s7,.int .i64 n7,.slice A7 a7 c7,.slice B7 b7 d7,.slice C7 z7 e7],.bool tw]) wx):=Hd fun wx hx=>by
  have h:=((HMP0.out.later HB1.out).later hx).look2 s (Nat.le_trans HTS.out (by decide:1000000000000000≤maxLen))
  have e1:(tysMK V h0).val ((firstN L s).getD (tysMK V h0).zero)=.agg #[.int .i64 k7,.string s7,.int .i64 n7,.slice A7 a7 c7,.slice B7 b7 d7,.slice C7 z7 e7]:=hval
  rw[e1,←htw] at h
  exact h
 have HTW:Hid (tw=true→(k == 22)=false):=Hd fun e=>beq_eq_false_iff_ne.2 fun h=>by rw[htw,(hN h).1] at e;cases e
 have HC6:Hid (∀ wx,Below w1.heap.size w1 wx→wx.cell? ⟨m+1,0,none⟩=some (.map (some m))∧(wx.cell? ⟨bp,op,none⟩=some (.int .i64 k)∧wx.cell? ⟨bp,op+1,none⟩=some (.string s)∧wx.cell? ⟨bp,op+2,none⟩=some (.int .i64 n)∧wx.cell? ⟨bp,op+3,none⟩=some (.slice A ps.length c)∧wx.cell? ⟨bp,op+4,none⟩=some (.slice B fs.length d)∧wx.cell? ⟨bp,op+5,none⟩=some (.slice C vs.length e))):=Hd fun wx hx=>⟨by rw[Ch (box_up hx (Array.getElem?_eq_some_iff.1 HC1.out).1 HC1.out)];rfl,HX.out wx (ButG.of_below hx)⟩
 have KI0:=inf_any (.mk k s n ps fs vs) K w1 bp op ⟨[.int .i64 k,.string s,.int .i64 n,.slice A ps.length c,.slice B fs.length d,.slice C vs.length e],fun j u hj=>by
  obtain⟨x0,x1,x2,x3,x4,x5⟩:=HX.out w1 (ButG.refl _ _)
  match j,hj with
  | 0,hj=>injection hj with hj;rw[←hj];exact x0
  | 1,hj=>injection hj with hj;rw[←hj];exact x1
  | 2,hj=>injection hj with hj;rw[←hj];exact x2
  | 3,hj=>injection hj with hj;rw[←hj];exact x3
  | 4,hj=>injection hj with hj;rw[←hj];exact x4
  | 5,hj=>injection hj with hj;rw[←hj];exact x5,HRP.out w1 (ButG.refl _ _)⟩
 rw[hinf] at KI0
 have KI:=Hd KI0
 have c0:=Ch HC1.out 1
 simp only[List.getElem?_toArray,List.getElem?_cons_zero,List.getElem?_cons_succ] at c0
 have HZ2:=Hd hz2
 clear hz2
 clear ha hbp hK hfil hn0 hct hmw hn hPO hF hnd htd hNT hUT hlps hlfs hLF hval htw hinf KI0 hN hfm ihp
 go_enter Tryz.func36,Tryz.ntmps36
 go_upto_region 1 with fail
 rw[←HW1.out,←HG.out]
 go_wp2_with fail
 refine KI.out.mono ?_
 rintro e w2 ⟨rfl,hw2⟩
 obtain rfl:w1=w2:=hw2.symm
 clear c0 hw2
 go_upto_region 6 with fail
 go_cut [6] from 14 (fun v wx=>v=.bool tw∧Below w1.heap.size w1 wx)
 case first=>
  refine wp_region_held_drew (S:=(fun w'=>w'.cell? ⟨m+1,0,none⟩=some (.map (some m))∧(w'.cell? ⟨bp,op,none⟩=some (.int .i64 k)∧w'.cell? ⟨bp,op+1,none⟩=some (.string s)∧w'.cell? ⟨bp,op+2,none⟩=some (.int .i64 n)∧w'.cell? ⟨bp,op+3,none⟩=some (.slice A ps.length c)∧w'.cell? ⟨bp,op+4,none⟩=some (.slice B fs.length d)∧w'.cell? ⟨bp,op+5,none⟩=some (.slice C vs.length e)))) (by kernel_rfl) (HC6.out _ (Below.refl _ _).drew) (fun hHeld=>?_)
  refine Plan.start [0,1,2,3,4,5,6,7] ?_
  iterate 8 (refine Plan.tk (so rfl) hHeld ?_;try simp only[Act.put,pz1,pz2,pz3])
  refine Plan.done ?_
  refine wpAnyH_ready (rs:=[8,12]) (by kernel_rfl) (by simp) ?_
  refine AllReadyH.cons (sd (some 48) rfl) (fun Kx hK=>?_) (AllReadyH.cons (sd (some 5) rfl) (fun Kx hK=>?_) AllReadyH.nil)
  have lk:=HLK.out _ (Below.refl w1.heap.size w1).drew
  go_simp
  clear lk
  refine hK.out _ _ (HC6.out _ (Below.refl _ _).drew) (fun hHeld=>?_)
  clear hK Kx
  try simp only[Act.put,pz1,pz2,pz3]
  refine Plan.start [9,10,11] ?_
  iterate 3 (refine Plan.tk (so rfl) hHeld ?_;try simp only[Act.put,pz1,pz2,pz3])
  refine Plan.done ?_
  refine wpAnyH_ready (rs:=[12]) (by kernel_rfl) (by simp) ?_
  refine AllReadyH.cons (sd (some 5) rfl) (fun Kx hK=>?_) AllReadyH.nil
  go_simp
  generalize hW:World.drew (World.alloc w1 (.cells #[.int .i64 0,.string ⟨#[]⟩,.int .i64 0,.slice none 0 0,.slice none 0 0,.slice none 0 0] 26))=w4
  have hb:Below w1.heap.size w1 w4:=by rw[←hW];exact ((Below.refl _ _).alloc (Nat.le_refl _) _).drew
  have rs:w4.heap[g+1]?=some (.cells #[.int .i64 0,.string ⟨#[]⟩,.int .i64 0,.slice none 0 0,.slice none 0 0,.slice none 0 0] 26 (0,0)):=by rw[←hW];have h:=heap_alloc_new w1 (.cells #[.int .i64 0,.string ⟨#[]⟩,.int .i64 0,.slice none 0 0,.slice none 0 0,.slice none 0 0] 26);rw[HS1.out] at h;exact h
  rw[HS1.out]
  have HB34:=Hd hb
  have HX4:=Hd rs
  clear hW hb rs
  refine hK.out _ _ (HC6.out _ HB34.out) (fun hHeld=>?_)
  clear hK Kx
  try simp only[Act.put,pz1,pz2,pz3]
  rotate_left
  go_simp
  generalize hW:World.drew (World.alloc w1 (.cells #[.int .i64 0,.string ⟨#[]⟩,.int .i64 0,.slice none 0 0,.slice none 0 0,.slice none 0 0] 26))=w4
  have hb:Below w1.heap.size w1 w4:=by rw[←hW];exact ((Below.refl _ _).alloc (Nat.le_refl _) _).drew
  have rs:w4.heap[g+1]?=some (.cells #[.int .i64 0,.string ⟨#[]⟩,.int .i64 0,.slice none 0 0,.slice none 0 0,.slice none 0 0] 26 (0,0)):=by rw[←hW];have h:=heap_alloc_new w1 (.cells #[.int .i64 0,.string ⟨#[]⟩,.int .i64 0,.slice none 0 0,.slice none 0 0,.slice none 0 0] 26);rw[HS1.out] at h;exact h
  rw[HS1.out]
  have HB34:=Hd hb
  have HX4:=Hd rs
  clear hW hb rs
  refine hK.out _ _ (HC6.out _ HB34.out) (fun hHeld=>?_)
  clear hK Kx
  try simp only[Act.put,pz1,pz2,pz3]
  have lk:=HLK.out _ HB34.out
  refine wpAnyH_ready (rs:=[8]) (by kernel_rfl) (by simp) ?_
  refine AllReadyH.cons (sd (some 48) rfl) (fun Kx hK=>?_) AllReadyH.nil
  go_simp
  clear lk
  refine hK.out _ _ (HC6.out _ HB34.out) (fun hHeld=>?_)
  clear hK Kx
  try simp only[Act.put,pz1,pz2,pz3]
  refine Plan.start [9,10,11] ?_
  iterate 3 (refine Plan.tk (so rfl) hHeld ?_;try simp only[Act.put,pz1,pz2,pz3])
  refine Plan.done ?_
  all_goals (
   refine wpAnyH_ready (rs:=[13]) (by kernel_rfl) (by simp) ?_
   refine AllReadyH.cons (sd none rfl) (fun Kx hK=>?_) AllReadyH.nil
   go_simp
   obtain⟨q0,q1,q2,q3,q4,q5,z0,z1,z2,z3,z4,z5⟩:=qz6 HX4.out
   go_simp
   clear q0 q1 q2 q3 q4 q5 z0 z1 z2 z3 z4 z5
   have hgs:w1.heap.size≤g+1:=Nat.le_of_eq HS1.out
   have hb:Below w1.heap.size w1 (((((((w4.setCell ⟨g+1,0,none⟩ (.int .i64 k7)).setCell ⟨g+1,1,none⟩ (.string s7)).setCell ⟨g+1,2,none⟩ (.int .i64 n7)).setCell ⟨g+1,3,none⟩ (.slice A7 a7 c7)).setCell ⟨g+1,4,none⟩ (.slice B7 b7 d7)).setCell ⟨g+1,5,none⟩ (.slice C7 z7 e7))):=(((((HB34.out.setCell hgs _).setCell hgs _).setCell hgs _).setCell hgs _).setCell hgs _).setCell hgs _
   have hx:=six_set HX4.out (.int .i64 k7) (.string s7) (.int .i64 n7) (.slice A7 a7 c7) (.slice B7 b7 d7) (.slice C7 z7 e7)
   generalize hW:(((((((w4.setCell ⟨g+1,0,none⟩ (.int .i64 k7)).setCell ⟨g+1,1,none⟩ (.string s7)).setCell ⟨g+1,2,none⟩ (.int .i64 n7)).setCell ⟨g+1,3,none⟩ (.slice A7 a7 c7)).setCell ⟨g+1,4,none⟩ (.slice B7 b7 d7)).setCell ⟨g+1,5,none⟩ (.slice C7 z7 e7)))=w5 at hb hx ⊢
   have HB35:=Hd hb
   have HX5:=Hd hx
   clear hW hb hx hgs
   refine hK.out _ _ (HC6.out _ HB35.out) (fun hHeld=>?_)
   clear hK Kx
   try simp only[Act.put,pz1,pz2,pz3]
   refine Plan.start [14] ?_
   refine Plan.tk (so rfl) hHeld ?_
   try simp only[Act.put,pz1,pz2,pz3]
   refine Plan.done ?_
   refine wpAnyH_done (by kernel_rfl) ?_ _
   clear hHeld
   go_wp2_with fail
   go_meet
   exact⟨rfl,HB35.out⟩)
 case rest=>
  obtain⟨wv,hwv⟩:∃ x:World,x=wc:=⟨_,rfl⟩
  subst hwv
  obtain⟨rfl,hbc⟩:=hcut
  have HBC:=Hd hbc
  clear hbc
  obtain⟨x0,x1,x2,x3,x4,x5⟩:=HX.out _ (ButG.of_below HBC.out)
  go_upto_region 7 with fail
  go_cut [58] from 14 (fun v wx=>v=.bool false∧wx=wv)
  case first=>
   cases tw with
   | true=>
    have f22:=HTW.out (by first | rfl | trivial)
    go_wp2_with fail
    go_meet
    exact⟨rfl,rfl⟩
   | false=>
    go_wp2_with fail
    go_meet
    exact⟨rfl,rfl⟩
  case rest=>
   obtain⟨rfl,hwc⟩:=hcut
   obtain rfl:wv=wc:=hwc.symm
   clear hwc x0 x1 x2 x3 x4 x5
   clear t1 t1' t1''
   have hc0:=box_up HBC.out (Array.getElem?_eq_some_iff.1 HC1.out).1 HC1.out
   have c0:=Ch hc0 1
   have c1:=Lib.frozen_of_heap hc0 1
   simp only[List.getElem?_toArray,List.getElem?_cons_zero,List.getElem?_cons_succ] at c0
   obtain⟨N2,hN2⟩:∃ N2:Nat,N2=n0+1:=⟨_,rfl⟩
   have wr1:wrap64 ((n0:Int)+1)=(N2:Int):=by rw[hN2];exact wrap_one (by have:=HN4.out;omega)
   have HN2:=Hd hN2
   obtain⟨w2,hw2⟩:∃ x,x=wv.setCell ⟨m+1,1,none⟩ (.int .i64 (N2:Int)):=⟨_,rfl⟩
   have hb2:ButG (fun x=>x=m+1) w1 w2:=by rw[hw2];exact (ButG.of_below HBC.out).put1 1 _
   have hc2:w2.heap[m+1]?=some (.cells #[.map (some m),.int .i64 N2] 69 (0,0)):=by rw[hw2];exact six_one hc0 1 _
   obtain⟨q,hq⟩:∃ q,q=w2.heap.size:=⟨_,rfl⟩
   have hgq:g<q:=by have h1:=hb2.size;have h2:=HS1.out;omega
   obtain⟨w3,hw3⟩:∃ x,x=w2.alloc (.cells #[.int .i64 k,.string s,.int .i64 n,.slice A ps.length c,.slice B fs.length d,.slice C vs.length e] 26):=⟨_,rfl⟩
   have hb23:Below w2.heap.size w2 w3:=by rw[hw3];exact (Below.refl _ _).alloc (Nat.le_refl _) _
   have hs3:w3.heap.size=q+1:=by rw[hw3,hq];simp
   have hx3:w3.heap[q]?=some (.cells #[.int .i64 k,.string s,.int .i64 n,.slice A ps.length c,.slice B fs.length d,.slice C vs.length e] 26 (0,0)):=by rw[hw3,hq];exact heap_alloc_new w2 _
   have hb3:ButG (fun x=>x=m+1) w1 w3:=hb2.then hb23
   have hc3:=box_up hb23 (Array.getElem?_eq_some_iff.1 hc2).1 hc2
   have KCL:=Hd (clone_parts (HP.out w3 hb3) (by have:=HC4.out.2.1;omega))
   have HW2:=Hd hw2
   have HW3:=Hd hw3
   have HQ:=Hd hq
   have HGQ:=Hd hgq
   have HS3:=Hd hs3
   have HX3:=Hd hx3
   have HB2:=Hd hb2
   have HB3:=Hd hb3
   have HC3:=Hd hc3
   clear hc0 hN2 hw2 hb2 hc2 hq hgq hw3 hb23 hs3 hx3 hb3 hc3
   go_upto_region 11 with fail
   rw[←HW2.out]
   clear c0 c1 wr1
   obtain⟨x0,x1,x2,x3,x4,x5⟩:=HX.out _ HB2.out
   go_upto_region 12 with fail
   rw[←HW3.out,←HQ.out]
   clear x0 x1 x2 x3 x4 x5
   obtain⟨x0,x1,x2,x3,x4,x5⟩:=HX.out _ HB3.out
   go_wp2_with fail
   refine KCL.out.mono ?_
   rintro e w4 ⟨A5,c5,rfl,hb4,hcl⟩
   clear KCL x0 x1 x2 x3 x4 x5
   obtain⟨P,hP⟩:∃ P:Nat→Prop,P=fun x=>((K x∨K' x)∨w.heap.size≤x)∧x≠m+1∧x≠g∧x≠q∧A5≠some ⟨x,0,none⟩:=⟨_,rfl⟩
   have HPP:Hid (∀ x,P x↔((K x∨K' x)∨w.heap.size≤x)∧x≠m+1∧x≠g∧x≠q∧A5≠some ⟨x,0,none⟩):=Hd fun x=>by rw[hP]
   have hrow:RowP P w4 q A5 c5 ps:=hcl.imp id fun ⟨gp,e1,e2,e3,e4⟩=>⟨gp,e1,by have:=HS3.out;omega,e3,e4.weak fun x hx=>by
    have h1:=HKK.out x (.inl hx)
    have h2:=HG.out
    have h3:=HGQ.out
    have h4:=HS3.out
    refine (HPP.out x).2 ⟨.inl (.inl hx),h1.2,by omega,by omega,fun e=>?_⟩
    rw[e1] at e
    injection e with e
    injection e with e
    omega⟩
   clear hP
   have hx4:=box_up hb4 (Array.getElem?_eq_some_iff.1 HX3.out).1 HX3.out
   have hc4:=box_up hb4 (Array.getElem?_eq_some_iff.1 HC3.out).1 HC3.out
   obtain⟨w5,hw5⟩:∃ x,x=w4.setCell ⟨q,3,none⟩ (.slice A5 ps.length c5):=⟨_,rfl⟩
   have hmq:m+1≠q:=by have:=HMG.out;have:=HGQ.out;omega
   have hst5:LoA P m q k s n (.slice A5 ps.length c5) (.slice B fs.length d) (.slice C vs.length e) A5 c5 w1 w5 N2 ps:=by
    refine⟨?_,?_,?_,?_⟩
    ·rw[hw5,Below.heap_setCell _ _ _ _ hmq];exact hc4
    ·rw[hw5];exact six_one hx4 3 _
    ·rw[hw5];exact hrow.but ((ButG.refl (fun x=>x=q) _).put1 3 _) (fun gp h e=>by show ¬ gp=q;omega) (fun x hx=>((HPP.out x).1 hx).2.2.2.1)
    ·rw[hw5];exact ButG.set (O:=(fun x=>x=m+1)) (p:=⟨q,3,none⟩) (HB3.out.then hb4) (.inr (by have h1:=HS1.out;have h2:=HGQ.out;show w1.heap.size≤q;omega)) _
   have HST5:=Hd hst5
   have HW5:=Hd hw5
   have HMQ:=Hd hmq
   obtain⟨q0,q1,q2,q3,q4,q5,z0,z1,z2,z3,z4,z5⟩:=qz6 hx4
   clear hcl hrow hx4 hc4 hw5 hmq hst5 hb4
   go_upto_region 13 with fail
   rw[←HW5.out]
   clear q0 q1 q2 q3 q4 q5 z0 z1 z2 z3 z4 z5
   obtain⟨-,-,-,b3,-,-⟩:=cz6 HST5.out.out
   go_wp2_with fail
   clear b3
   go_loopw [88] (fun v wr=>∃ (i nn:Nat) (S:List Ty),i≤ps.length∧v=.int .i64 i∧LoA P m q k s n (.slice A5 ps.length c5) (.slice B fs.length d) (.slice C vs.length e) A5 c5 w1 wr nn S∧S.length=ps.length∧S.drop i=ps.drop i∧Exact nn (MF i) (S.take i) (LF i)∧Hid (nn≤n0+1+cntL (ps.take i)*4097)∧Hid (cntL (S.take i)≤cntL (ps.take i)*4097)) (fun v _=>ps.length - (intOf v).toNat)
   case atStart=>exact⟨0,N2,ps,Nat.zero_le _,rfl,HST5.out,rfl,rfl,by rw[HLF.out.1,HLF.out.2.1,HN2.out];exact⟨fun _=>⟨rfl,rfl⟩,fun h=>h⟩,Hd (by rw[HN2.out];omega),Hd (by simp[cntL])⟩
   case round=>
    obtain⟨i,nn,S,hi,rfl,hst,hlen,hdr,hex,hnn,hcs⟩:=hrel
    have HST:=Hd hst
    have HLEN:=Hd hlen
    have HEX:=Hd hex
    have HNNI:=Hd hnn
    have HCSI:=Hd hcs
    have hlp:=HC4.out.2.1
    by_cases hin:i<ps.length
    ·have t1:decide ((i:Int)<(ps.length:Int))=true:=by simp;omega
     have wr2:wrap64 ((i:Int)+1)=((i+1:Nat):Int):=wrap_one (by omega)
     have HM:=Hd (measI hin)
     obtain⟨x0,x1,x2,x3,x4,x5⟩:=HX.out _ hst.but
     obtain⟨tb,tq,hA,hKb,hat⟩:=(HP.out wr hst.but).at (Nat.lt_of_le_of_lt (Nat.zero_le i) hin)
     subst hA
     obtain⟨gp,hA5,hqg,hcc,hpl⟩:=hst.row.get (by omega)
     subst hA5
     obtain⟨es,hes,hrq⟩:=hat i hin
     have HTB:Hid (tb≠m+1):=Hd (HKK.out tb (.inl hKb)).2
     have hnx:=HLF.out.2.2.1 i hin
     have hih:=HIH.out (ps[i]'hin) (List.getElem_mem hin)
     have HTU:=Hd fun u=>turn_next hin hlen hdr u
     have HIn:Hid (i+1≤ps.length):=Hd hin
     have HCU:Hid (cntL (ps.take (i+1))=cntL (ps.take i)+cntT (ps[i]'hin)):=Hd (cntL_next hin)
     have HCP:Hid (nn≤20000000):=Hd (jc_d hnn.out (cntL_takeJ ps i) (by have:=HC4.out.1;omega) HN4.out)
     have i1:(0:Int)≤(i:Int):=by omega
     have i2:(i:Int)<(ps.length:Int):=by omega
     generalize ps[i]'hin=u0 at hrq hnx hih HTU HCU
     by_cases hcd:k=21∧i=1
     ·obtain⟨h21,hi1⟩:=hcd
      have f15:(k == 21)=true:=by simp[h21]
      have f16:((i:Int) == 1)=true:=by simp[hi1]
      rw[if_pos ⟨h21,hi1⟩,if_pos ⟨h21,hi1⟩] at hnx
      have HNX:=Hd hnx
      have HTN:=Hd (HTU.out u0)
      have j2:(1:Int)<(ps.length:Int):=by omega
      have KN0:=nodes_any (hrq.later (Below.refl wr.heap.size wr).drew)
      obtain⟨Y,hY⟩:∃ Y:Nat,Y=capN (cntT u0):=⟨_,rfl⟩
      have hYe:Y≤4097∧Y≤cntT u0:=by rw[hY];unfold capN;omega
      obtain⟨n1,hn1⟩:∃ n1,n1=nn+Y:=⟨_,rfl⟩
      have hE5:Exact n1 (nn+cntT u0) u0 u0:=by rw[hn1,hY];exact cap_exact _
      have HE5:=Hd hE5
      have HM5:Hid (n1≤nn+cntT u0):=Hd (by omega)
      obtain⟨k4,s4,n4,ps4,fs4,vs4⟩:=u0
      obtain⟨A4,c4,B4,d4,C4,e4,rfl,-⟩:=hrq.inv
      simp only[cells6T] at hes KN0
      have KN:Hid (Calls Tryz.prog 52 #[.agg #[.int .i64 k4,.string s4,.int .i64 n4,.slice A4 ps4.length c4,.slice B4 fs4.length d4,.slice C4 vs4.length e4]] wr.drew fun e w'=>e=.returned (.int .i64 (Y:Int))∧Below wr.drew.heap.size wr.drew w'):=Hd (KN0.mono fun e w' h=>⟨by rw[hY];exact h.1,h.2⟩)
      have hcp:=HCP.out
      have w12:wrap64 ((nn:Int)+(Y:Int))=(n1:Int):=by rw[wrap_in (by omega) (by omega)];omega
      have v12:IntKind.i64.wrap ((nn:Int)+(Y:Int))=(n1:Int):=(wrap_kindJ _).trans w12
      have HC:Hid (∀ wx,ButG (fun x=>x=m+1) wr wx→wx.cell? ⟨bp,op+3,none⟩=some (.slice (some ⟨tb,tq,none⟩) ps.length c)∧(wx.cell? ⟨tb,tq+i*6,none⟩=some (.int .i64 k4)∧wx.cell? ⟨tb,tq+i*6+1,none⟩=some (.string s4)∧wx.cell? ⟨tb,tq+i*6+2,none⟩=some (.int .i64 n4)∧wx.cell? ⟨tb,tq+i*6+3,none⟩=some (.slice A4 ps4.length c4)∧wx.cell? ⟨tb,tq+i*6+4,none⟩=some (.slice B4 fs4.length d4)∧wx.cell? ⟨tb,tq+i*6+5,none⟩=some (.slice C4 vs4.length e4))):=Hd fun wx hx=>by
       have htb:=HTB.out
       exact⟨(HX.out wx (HST.out.but.trans hx fun _ h=>.inl h)).2.2.2.1,hx.cell htb (hes 0 _ rfl),hx.cell htb (hes 1 _ rfl),hx.cell htb (hes 2 _ rfl),hx.cell htb (hes 3 _ rfl),hx.cell htb (hes 4 _ rfl),hx.cell htb (hes 5 _ rfl)⟩
      clear hnx hih hY hYe hn1 hE5 KN0 hes hrq h21 hi1 hi hst hlen hdr hex hnn hcs hlp hKb hat hpl hcc hqg hcp
      go_upto_region 17 with fail
      clear x0 x1 x2 x3 x4 x5
      refine wp_region_held_drew (S:=(fun w'=>w'.cell? ⟨bp,op+3,none⟩=some (.slice (some ⟨tb,tq,none⟩) ps.length c)∧(w'.cell? ⟨tb,tq+i*6,none⟩=some (.int .i64 k4)∧w'.cell? ⟨tb,tq+i*6+1,none⟩=some (.string s4)∧w'.cell? ⟨tb,tq+i*6+2,none⟩=some (.int .i64 n4)∧w'.cell? ⟨tb,tq+i*6+3,none⟩=some (.slice A4 ps4.length c4)∧w'.cell? ⟨tb,tq+i*6+4,none⟩=some (.slice B4 fs4.length d4)∧w'.cell? ⟨tb,tq+i*6+5,none⟩=some (.slice C4 vs4.length e4)))) (by kernel_rfl) (HC.out _ (ButG.of_below (Below.refl _ _).drew)) (fun hHeld=>?_)
      refine Plan.start [0,1,2,4,5,6,7,8,9,10] ?_
      iterate 10 (refine Plan.tk (so rfl) hHeld ?_;try simp only[Act.put,pz1,pz2,pz3])
      refine Plan.done ?_
      refine wpAnyH_ready (rs:=[3,11]) (by kernel_rfl) (by simp) ?_
      refine AllReadyH.cons (sd (some 103) rfl) (fun Kx hK=>?_) (AllReadyH.cons (sd (some 111) rfl) (fun Kx hK=>?_) AllReadyH.nil)
      have v3:World.cell? (World.drew wr) ⟨m+1,1,none⟩=some (.int .i64 nn):=by rw[Ch (show (World.drew wr).heap[m+1]?=_ from HST.out.cnt)];rfl
      go_simp
      clear v3
      refine hK.out _ _ (HC.out _ (ButG.of_below (Below.refl _ _).drew)) (fun hHeld=>?_)
      clear hK Kx
      try simp only[Act.put,pz1,pz2,pz3]
      refine wpAnyH_ready (rs:=[11]) (by kernel_rfl) (by simp) ?_
      refine AllReadyH.cons (sd (some 111) rfl) (fun Kx hK=>?_) AllReadyH.nil
      go_simp
      refine KN.out.mono ?_
      rintro e v5 ⟨rfl,hb5⟩
      have HB0:Hid (Below wr.heap.size wr v5):=Hd ((Below.refl wr.heap.size wr).drew.trans hb5)
      clear hb5 KN
      go_wp2_with fail
      refine hK.out _ _ (HC.out _ (ButG.of_below HB0.out)) (fun hHeld=>?_)
      clear hK Kx
      try simp only[Act.put,pz1,pz2,pz3]
      have HC0:=Hd (box_up HB0.out (Array.getElem?_eq_some_iff.1 HST.out.cnt).1 HST.out.cnt)
      have v3:=Ch HC0.out 1
      have v4:=Lib.frozen_of_heap HC0.out 1
      simp only[List.getElem?_toArray,List.getElem?_cons_zero,List.getElem?_cons_succ] at v3
      rotate_left
      go_simp
      refine KN.out.mono ?_
      rintro e v5 ⟨rfl,hb5⟩
      have HB0:Hid (Below wr.heap.size wr v5):=Hd ((Below.refl wr.heap.size wr).drew.trans hb5)
      clear hb5 KN
      go_wp2_with fail
      refine hK.out _ _ (HC.out _ (ButG.of_below HB0.out)) (fun hHeld=>?_)
      clear hK Kx
      try simp only[Act.put,pz1,pz2,pz3]
      have HC0:=Hd (box_up HB0.out (Array.getElem?_eq_some_iff.1 HST.out.cnt).1 HST.out.cnt)
      have v3:=Ch HC0.out 1
      have v4:=Lib.frozen_of_heap HC0.out 1
      simp only[List.getElem?_toArray,List.getElem?_cons_zero,List.getElem?_cons_succ] at v3
      refine wpAnyH_ready (rs:=[3]) (by kernel_rfl) (by simp) ?_
      refine AllReadyH.cons (sd (some 103) rfl) (fun Kx hK=>?_) AllReadyH.nil
      go_simp
      refine hK.out _ _ (HC.out _ (ButG.of_below HB0.out)) (fun hHeld=>?_)
      clear hK Kx
      try simp only[Act.put,pz1,pz2,pz3]
      all_goals (
       refine Plan.start [12,13,14] ?_
       iterate 3 (refine Plan.tk (so rfl) hHeld ?_;try simp only[Act.put,pz1,pz2,pz3])
       refine Plan.done ?_
       refine wpAnyH_ready (rs:=[15]) (by kernel_rfl) (by simp) ?_
       refine AllReadyH.cons (sd none rfl) (fun Kx hK=>?_) AllReadyH.nil
       go_simp
       clear v3 v4
       obtain⟨w6,hw6⟩:∃ x,x=v5.setCell ⟨m+1,1,none⟩ (.int .i64 (n1:Int)):=⟨_,rfl⟩
       have hb6:ButG (fun x=>x=m+1) wr w6:=by rw[hw6];exact (ButG.of_below HB0.out).put1 1 _
       have hc6:w6.heap[m+1]?=some (.cells #[.map (some m),.int .i64 n1] 69 (0,0)):=by rw[hw6];exact six_one HC0.out 1 _
       have HB6:=Hd hb6
       have HC6':=Hd hc6
       rw[←hw6]
       clear hw6 hb6 hc6
       refine hK.out _ _ (HC.out _ HB6.out) (fun hHeld=>?_)
       clear hK Kx
       try simp only[Act.put,pz1,pz2,pz3]
       refine wpAnyH_done (by kernel_rfl) ?_ _
       clear hHeld
       go_wp2_with fail
       go_roundw
       case rel=>
        refine⟨i+1,n1,S,HIn.out,by first | rfl | rw[wr2],⟨HC6'.out,HB6.out.up (by have:=HMQ.out;show ¬ q=m+1;omega) HST.out.out,HST.out.row.but HB6.out (fun gp h _=>by have h1:=HMG.out;have h2:=HGQ.out;show ¬ gp=m+1;omega) (fun x hx=>((HPP.out x).1 hx).2.1),HST.out.but.trans HB6.out fun _ h=>.inl h⟩,HLEN.out,HTN.out.2.1,?_,Hd ?_,Hd ?_⟩
        ·rw[HTN.out.1,HNX.out.1,HNX.out.2]
         exact HEX.out.stp (f:=fun S u=>S++[u]) HE5.out
        ·rw[HCU.out];exact jc_c HNNI.out.out HM5.out
        ·rw[HTN.out.1,cntL_snoc,HCU.out]
         exact Nat.le_trans (Nat.add_le_add_left (Nat.le_mul_of_pos_right _ (by decide)) _) (jc_a HCSI.out.out)
       case measure=>first | exact HM.out | (rw[wr2];exact HM.out))
     ·have hcd2:(k == 21)=false∨((k == 21)=true∧((i:Int) == 1)=false):=by
       by_cases h21:k=21
       ·exact .inr ⟨by simp[h21],by simp;intro h;exact hcd ⟨h21,by omega⟩⟩
       ·exact .inl (beq_eq_false_iff_ne.2 h21)
      rw[if_neg hcd,if_neg hcd] at hnx
      have HNX:=Hd hnx
      clear hnx hcd
      rcases hcd2 with f15 | ⟨f15,f16⟩
      all_goals (
       have KQ:=Hd (hih wr.drew tb (tq+i*6) nn ⟨es,fun j u hj=>cell_stays (Below.refl _ _).drew (hes j u hj),hrq.later (Below.refl _ _).drew⟩ HTB.out (fun x hx=>by have h1:=HKK.out x hx;have h2:=HB1.out.size;have h3:=hst.but.size;exact⟨by show x<wr.heap.size;omega,h1.2⟩) (HFIL.out _ _ (hst.but.then (Below.refl _ _).drew) hst.cnt) (by have:=HCP.out;omega))
       have HGP:Hid (q<gp∧gp<wr.heap.size∧w1.heap.size≤gp∧q<wr.heap.size):=Hd ⟨hqg,hpl.lt,by have h1:=HS1.out;have h2:=HGQ.out;omega,(Array.getElem?_eq_some_iff.1 hst.out).1⟩
       have HC:Hid (∀ wx,ButG (fun x=>x=m+1∨x=gp) wr wx→wx.cell? ⟨q,3,none⟩=some (.slice (some ⟨gp,0,none⟩) ps.length c5)∧wx.cell? ⟨bp,op+3,none⟩=some (.slice (some ⟨tb,tq,none⟩) ps.length c)):=Hd fun wx hx=>by
        have h1:=hx.up (by have h1:=HGP.out;have h2:=HMQ.out;show ¬ (q=m+1∨q=gp);omega) HST.out.out
        have h2:=HX.out wx (HST.out.but.trans hx fun x h=>h.imp id fun e=>by have:=HGP.out;omega)
        exact⟨(cz6 h1).2.2.2.1,h2.2.2.2.1⟩
       have HPL:=Hd hpl
       have HCC:=Hd hcc
       clear hih hes hrq hpl hcc hqg hst hi hlen hdr hex hnn hcs hlp hKb hat
       go_upto_region 18 with fail
       clear x0 x1 x2 x3 x4 x5
       refine wp_region_held_drew (S:=(fun w'=>w'.cell? ⟨q,3,none⟩=some (.slice (some ⟨gp,0,none⟩) ps.length c5)∧w'.cell? ⟨bp,op+3,none⟩=some (.slice (some ⟨tb,tq,none⟩) ps.length c))) (by kernel_rfl) (HC.out _ (ButG.of_below (Below.refl _ _).drew)) (fun hHeld=>?_)
       refine Plan.start [0,1,2,3,4,5,6,7,8,9] ?_
       iterate 10 (refine Plan.tk (so rfl) hHeld ?_;try simp only[Act.put,pz1,pz2,pz3])
       refine Plan.done ?_
       refine wpAnyH_ready (rs:=[10]) (by kernel_rfl) (by simp) ?_
       refine AllReadyH.cons (sd (some 125) rfl) (fun Kx hK=>?_) AllReadyH.nil
       go_simp
       refine KQ.out.mono ?_
       rintro e w6 ⟨rs,u,n1,rfl,hr5,hx5,hn5,hm5,hl5,hc5,hbut⟩
       have HB6:Hid (ButG (fun x=>x=m+1) wr w6):=Hd (ButG.from (Below.refl wr.heap.size wr).drew hbut)
       have hpl6:=HPL.out.but HB6.out (by have h1:=HMQ.out;have h2:=HGP.out;have h3:=HMG.out;have h4:=HGQ.out;show ¬ gp=m+1;omega) (fun x hx=>((HPP.out x).1 hx).2.1)
       have hr6:RepT P w6 u rs:=hr5.weak fun x hx=>by
        have h1:=HGP.out
        have h2:=HG.out
        have h3:=HGQ.out
        have h4:=HMG.out
        have h5:wr.drew.heap.size=wr.heap.size:=rfl
        refine (HPP.out x).2 ?_
        rcases hx with hx | hx
        ·have h6:=HKK.out x hx
         exact⟨.inl hx,h6.2,by omega,by omega,fun e=>by injection e with e;injection e with e;omega⟩
        ·exact⟨.inr (by omega),by omega,by omega,by omega,fun e=>by injection e with e;injection e with e;omega⟩
       have HX5:=Hd hx5
       have HE5:Hid (Exact n1 (nn+fillN F u0) u (fillT F u0)):=Hd ⟨hn5,hm5⟩
       have HM5:=Hd (And.intro hl5 hc5)
       clear hr5 hx5 hn5 hm5 hl5 hc5 hbut KQ
       obtain⟨k6,s6,n6,ps6,fs6,vs6⟩:=u
       obtain⟨A9,c9,B9,d9,C9,e9,rfl,-⟩:=hr6.inv
       simp only[cells6T] at hr6 ⊢
       obtain⟨⟨u0',q0⟩,⟨u1',q1⟩,⟨u2',q2⟩,⟨u3',q3⟩,⟨u4',q4⟩,⟨u5',q5⟩⟩:=hpl6.six (i:=i) (by have h1:=HLEN.out;have h2:=HIn.out;omega)
       have y0:=hpl6.free (i*6)
       have y1:=hpl6.free (i*6+1)
       have y2:=hpl6.free (i*6+2)
       have y3:=hpl6.free (i*6+3)
       have y4:=hpl6.free (i*6+4)
       have y5:=hpl6.free (i*6+5)
       have hset:=hpl6.set (fun x hx e=>(((HPP.out x).1 hx).2.2.2.2 (by rw[e]):False)) (by have h1:=HLEN.out;have h2:=HIn.out;omega:i<S.length) hr6
       have HST9:Hid (LoA P m q k s n (.slice (some ⟨gp,0,none⟩) ps.length c5) (.slice B fs.length d) (.slice C vs.length e) (some ⟨gp,0,none⟩) c5 w1 (put6 w6 gp (i*6) (.int .i64 k6) (.string s6) (.int .i64 n6) (.slice A9 ps6.length c9) (.slice B9 fs6.length d9) (.slice C9 vs6.length e9)) n1 (S.set i (.mk k6 s6 n6 ps6 fs6 vs6))):=Hd (by
        have h1:=HGP.out
        have h2:=HMQ.out
        have h3:=HMG.out
        have h4:=HGQ.out
        have hp:ButG (fun x=>x=gp) w6 (put6 w6 gp (i*6) (.int .i64 k6) (.string s6) (.int .i64 n6) (.slice A9 ps6.length c9) (.slice B9 fs6.length d9) (.slice C9 vs6.length e9)):=put6_but (ButG.refl _ _) (.inl rfl)
        exact⟨hp.up (by show ¬ m+1=gp;omega) HX5.out,hp.up (by show ¬ q=gp;omega) (HB6.out.up (by show ¬ q=m+1;omega) HST.out.out),.inr ⟨gp,rfl,h1.1,by rw[List.length_set];exact HCC.out,hset⟩,put6_but (HST.out.but.trans HB6.out fun _ h=>.inl h) (.inr h1.2.2.1)⟩)
       clear hpl6 hset
       go_wp2_with fail
       refine hK.out _ _ (HC.out _ (HB6.out.mono fun x h=>.inl h)) (fun hHeld=>?_)
       clear hK Kx
       try simp only[Act.put,pz1,pz2,pz3]
       refine Plan.start [11] ?_
       refine Plan.tk (so rfl) hHeld ?_
       try simp only[Act.put,pz1,pz2,pz3]
       refine Plan.done ?_
       refine wpAnyH_ready (rs:=[12]) (by kernel_rfl) (by simp) ?_
       refine AllReadyH.cons (sd none rfl) (fun Kx hK=>?_) AllReadyH.nil
       go_simp
       refine hK.out _ _ (HC.out _ (put6_but (y:=i*6) (HB6.out.mono fun x h=>.inl h) (.inl (.inr rfl)))) (fun hHeld=>?_)
       clear hK Kx
       try simp only[Act.put,pz1,pz2,pz3]
       refine wpAnyH_done (by kernel_rfl) ?_ _
       clear hHeld q0 q1 q2 q3 q4 q5 y0 y1 y2 y3 y4 y5
       have HTN:=Hd (HTU.out (.mk k6 s6 n6 ps6 fs6 vs6))
       go_wp2_with fail
       go_roundw
       case rel=>
        refine⟨i+1,n1,S.set i (.mk k6 s6 n6 ps6 fs6 vs6),HIn.out,by first | rfl | rw[wr2],HST9.out,HTN.out.2.2.1,HTN.out.2.2.2.1,?_,Hd ?_,Hd ?_⟩
        ·rw[HTN.out.2.2.2.2,HNX.out.1,HNX.out.2]
         exact HEX.out.stp (f:=fun S u=>S++[u]) HE5.out
        ·rw[HCU.out];exact jc_b HNNI.out.out HM5.out.1
        ·rw[HTN.out.2.2.2.2,cntL_snoc,HCU.out]
         exact Nat.le_trans (Nat.add_le_add_left HM5.out.2 _) (jc_a HCSI.out.out)
       case measure=>first | exact HM.out | (rw[wr2];exact HM.out))
    ·have t1:decide ((i:Int)<(ps.length:Int))=false:=by simp;omega
     obtain rfl:i=ps.length:=by omega
     have hS:S.take ps.length=S:=by rw[←hlen,List.take_length]
     rw[hS] at hex hcs
     rw[List.take_length] at hnn hcs
     have HEXL:=Hd hex
     have HNNL:=Hd hnn.out
     have HCSL:=Hd hcs.out
     clear hi hst hlen hdr hex hnn hcs hlp hin hS HEX HNNI HCSI
     have KCF:=Hd (clone_fieldsO (HFS.out wr HST.out.but) (by have:=HC4.out.2.2;omega))
     obtain⟨x0,x1,x2,x3,x4,x5⟩:=HX.out _ HST.out.but
     go_wp2_with fail
     refine KCF.out.mono ?_
     rintro e w7 ⟨A6,c6,rfl,hb7,hcf⟩
     clear KCF x0 x1 x2 x3 x4 x5
     have hx7:=box_up hb7 (Array.getElem?_eq_some_iff.1 HST.out.out).1 HST.out.out
     have hc7:=box_up hb7 (Array.getElem?_eq_some_iff.1 HST.out.cnt).1 HST.out.cnt
     have hqw:q<wr.heap.size:=(Array.getElem?_eq_some_iff.1 HST.out.out).1
     obtain⟨w8,hw8⟩:∃ x,x=w7.setCell ⟨q,4,none⟩ (.slice A6 fs.length c6):=⟨_,rfl⟩
     have HLE:Hid (∀ (K9:Nat→Prop) (wx:World),ListF K9 wx fs A6 c6):=Hd fun K9 wx=>(RowQ.list (P:=K) (q:=q) (w:=w7) (hcf.imp id fun ⟨gf,e1,e2,e3,e4⟩=>⟨gf,e1,by omega,e3,e4⟩) (by have:=HC4.out.2.2;omega)).void HZ2.out
     have hst8:LoA P m q k s n (.slice A5 ps.length c5) (.slice A6 fs.length c6) (.slice C vs.length e) A5 c5 w1 w8 nn S:=by
      have hb:ButG (fun x=>x=m+1) wr w7:=ButG.of_below hb7
      refine⟨?_,?_,?_,?_⟩
      ·rw[hw8,Below.heap_setCell _ _ _ _ HMQ.out];exact hc7
      ·rw[hw8];exact six_one hx7 4 _
      ·rw[hw8]
       exact (HST.out.row.but hb (fun gp h _=>by have h1:=HMG.out;have h2:=HGQ.out;show ¬ gp=m+1;omega) (fun x hx=>((HPP.out x).1 hx).2.1)).but ((ButG.refl (fun x=>x=q) _).put1 4 _) (fun gp h e=>by show ¬ gp=q;omega) (fun x hx=>((HPP.out x).1 hx).2.2.2.1)
      ·rw[hw8];exact ButG.set (O:=(fun x=>x=m+1)) (p:=⟨q,4,none⟩) (HST.out.but.trans hb fun _ h=>.inl h) (.inr (by have h1:=HS1.out;have h2:=HGQ.out;show w1.heap.size≤q;omega)) _
     have HST8:=Hd hst8
     have HW8:=Hd hw8
     obtain⟨q0,q1,q2,q3,q4,q5,z0,z1,z2,z3,z4,z5⟩:=qz6 hx7
     clear hcf hx7 hc7 hqw hw8 hst8 hb7
     go_upto_region 21 with fail
     rw[←HW8.out]
     clear q0 q1 q2 q3 q4 q5 z0 z1 z2 z3 z4 z5
     obtain⟨-,-,-,-,b4,-⟩:=cz6 HST8.out.out
     go_wp2_with fail
     clear b4
     go_loopw [137] (fun v wr=>(∃ i:Nat,v=.int .i64 i)∧wr=w8) (fun _ _=>0)
     case atStart=>exact⟨⟨0,rfl⟩,rfl⟩
     case round=>
      obtain⟨⟨i,rfl⟩,hwr⟩:=hrel
      obtain rfl:w8=wr:=hwr.symm
      clear hwr
      have t1:decide ((i:Int)<(fs.length:Int))=false:=by have:=HZ2.out;simp;omega
      have hin:¬ i<fs.length:=by have:=HZ2.out;omega
      obtain⟨x0,x1,x2,x3,x4,x5⟩:=HX.out _ HST8.out.but
      go_wp2_with fail
      clear x0 x1 x2 x3 x4 x5
      go_loopw [160] (fun v wr=>∃ (i nv:Nat) (wo:World),i≤vs.length∧v=.int .i64 i∧wo=wr∧wr.heap[m+1]?=some (.cells #[.map (some m),.int .i64 nv] 69 (0,0))∧ButG (fun x=>x=m+1) w8 wr∧Exact nv (MF ps.length+cntV (vs.take i)) S (LF ps.length)∧Hid (nv≤n0+1+(cntL ps+cntV (vs.take i))*4097)) (fun v _=>vs.length - (intOf v).toNat)
      case atStart=>
       have e:cntV (vs.take 0)=0:=rfl
       exact⟨0,nn,w8,Nat.zero_le _,rfl,rfl,HST8.out.cnt,ButG.refl _ _,by rw[e];exact HEXL.out,Hd (by rw[e];exact HNNL.out)⟩
      case round=>
       obtain⟨i,nv,wo,hi,rfl,hwo,hcn,hbw,hex,hnv⟩:=hrel
       subst hwo
       have HCN0:=Hd hcn
       have HBW0:=Hd hbw
       have HEX0:=Hd hex
       have HNV0:=Hd hnv
       have HB1W:Hid (ButG (fun x=>x=m+1) w1 wo):=Hd (HST8.out.but.trans hbw fun _ h=>.inl h)
       have hlv:vs.length≤1000000000000000:=by
        obtain⟨_,_,hr,_⟩:=HVS.out _ HB1W.out
        exact hr.big
       by_cases hin:i<vs.length
       ·have t1:decide ((i:Int)<(vs.length:Int))=true:=by simp;omega
        have HWR1:=Hd (wrap_one (a:=i) (by omega))
        have HMI:=Hd (measI hin)
        obtain⟨vb,vo,hA,hKv,hat⟩:=(HVS.out wo HB1W.out).at (Nat.lt_of_le_of_lt (Nat.zero_le i) hin)
        subst hA
        obtain⟨B',d',hy0,hy1,-,hlt⟩:=hat i hin
        have HIn:Hid (i+1≤vs.length):=Hd hin
        have HNXI:=Hd (cntV_nextJ vs i hin)
        have HCL:Hid (cntV (vs.take i)+cntL (vs[i]'hin).2≤cntV vs):=Hd (by rw[←cntV_nextJ vs i hin];exact cntV_takeJ vs (i+1))
        have i1:(0:Int)≤(i:Int):=by omega
        have i2:(i:Int)<(vs.length:Int):=by omega
        generalize vs[i]'hin=vv at hy0 hy1 hlt HNXI HCL
        obtain⟨nm,l⟩:=vv
        dsimp only at hy0 hy1 hlt HNXI HCL
        obtain⟨vq,hvq⟩:∃ x,x=wo.heap.size:=⟨_,rfl⟩
        obtain⟨wb,hwb⟩:∃ x,x=wo.alloc (.cells #[.string nm,.slice B' l.length d'] 62):=⟨_,rfl⟩
        have hbb:Below wo.heap.size wo wb:=by rw[hwb];exact (Below.refl _ _).alloc (Nat.le_refl _) _
        have hxb:wb.heap[vq]?=some (.cells #[.string nm,.slice B' l.length d'] 62 (0,0)):=by rw[hwb,hvq];exact heap_alloc_new wo _
        have HLT:=Hd (hlt.later hbb)
        have HCB:=Hd (box_up hbb (Array.getElem?_eq_some_iff.1 hcn).1 hcn)
        have HXB:=Hd hxb
        have HBB:=Hd hbb
        have HWB:=Hd hwb
        have HVQ:=Hd hvq
        clear hi hcn hbw hex hnv hlv hat hlt hKv hvq hwb hbb hxb
        go_upto_region 29 with fail
        rw[←HWB.out,←HVQ.out]
        clear hy0 hy1
        have b1:wb.cell? ⟨vq,1,none⟩=some (.slice B' l.length d'):=by rw[Ch HXB.out];rfl
        go_wp2_with fail
        clear b1
        go_loopw [167] (fun v wr=>∃ (j n2:Nat),j≤l.length∧v=.int .i64 j∧wr.heap[m+1]?=some (.cells #[.map (some m),.int .i64 n2] 69 (0,0))∧ButG (fun x=>x=m+1) wb wr∧Exact n2 (MF ps.length+cntV (vs.take i)+cntL (l.take j)) S (LF ps.length)∧Hid (n2≤n0+1+(cntL ps+cntV (vs.take i)+cntL (l.take j))*4097)) (fun v _=>l.length - (intOf v).toNat)
        case atStart=>
         have e:cntL (l.take 0)=0:=by simp[cntL]
         exact⟨0,nv,Nat.zero_le _,rfl,HCB.out,ButG.refl _ _,by rw[e];exact HEX0.out,Hd (by rw[e];exact HNV0.out.out)⟩
        case round=>
         obtain⟨j,n2,hj,rfl,hcn,hbw2,hex,hn2⟩:=hrel
         have HCN:=Hd hcn
         have HBW2:=Hd hbw2
         have HEX:=Hd hex
         have HN2I:=Hd hn2
         have hll:l.length≤4096:=by have h1:=lenJ l;have h2:=HCL.out;have h3:=HC4.out.1;omega
         by_cases hjn:j<l.length
         ·have t2:decide ((j:Int)<(l.length:Int))=true:=by simp;omega
          have wr2:wrap64 ((j:Int)+1)=((j+1:Nat):Int):=wrap_one (by omega)
          have HM:=Hd (measI hjn)
          obtain⟨tb,tq,hA,hKb,hat⟩:=HLT.out.at (Nat.lt_of_le_of_lt (Nat.zero_le j) hjn)
          subst hA
          obtain⟨es,hes,hrq0⟩:=hat j hjn
          have htb:¬ tb=m+1:=(HKK.out tb (.inl hKb)).2
          have HJn:Hid (j+1≤l.length):=Hd hjn
          have HNXJ:=Hd (cntL_next hjn)
          have HCP:Hid (n2≤20000000):=Hd (jc_d hn2.out (c:=cntL ps+(cntF fs+cntV vs)) (by have h1:=HCL.out;have h2:=cntL_takeJ l j;omega) (by have:=HC4.out.1;omega) HN4.out)
          have j1:(0:Int)≤(j:Int):=by omega
          have j2:(j:Int)<(l.length:Int):=by omega
          generalize l[j]'hjn=u0 at hrq0 HNXJ
          have hrq:RepT K wr u0 es:=hrq0.but hbw2 fun x hx=>⟨(HKK.out x (.inl hx)).2,hx⟩
          obtain⟨Y,hY⟩:∃ Y:Nat,Y=capN (cntT u0):=⟨_,rfl⟩
          have hYe:Y≤4097∧Y≤cntT u0:=by rw[hY];unfold capN;omega
          obtain⟨n1,hn1⟩:∃ n1,n1=n2+Y:=⟨_,rfl⟩
          have HE5:Hid (Exact n1 (n2+cntT u0) S S):=Hd (by rw[hn1,hY];exact cap_exact _)
          have HM5:Hid (n1≤n2+cntT u0):=Hd (by omega)
          obtain⟨k4,s4,n4,ps4,fs4,vs4⟩:=u0
          obtain⟨A4,c4,B4,d4,C4,e4,rfl,-⟩:=hrq.inv
          simp only[cells6T] at hes hrq
          have z0:wr.cell? ⟨tb,tq+j*6,none⟩=some (.int .i64 k4):=hbw2.cell htb (hes 0 _ rfl)
          have z1:wr.cell? ⟨tb,tq+j*6+1,none⟩=some (.string s4):=hbw2.cell htb (hes 1 _ rfl)
          have z2:wr.cell? ⟨tb,tq+j*6+2,none⟩=some (.int .i64 n4):=hbw2.cell htb (hes 2 _ rfl)
          have z3:wr.cell? ⟨tb,tq+j*6+3,none⟩=some (.slice A4 ps4.length c4):=hbw2.cell htb (hes 3 _ rfl)
          have z4:wr.cell? ⟨tb,tq+j*6+4,none⟩=some (.slice B4 fs4.length d4):=hbw2.cell htb (hes 4 _ rfl)
          have z5:wr.cell? ⟨tb,tq+j*6+5,none⟩=some (.slice C4 vs4.length e4):=hbw2.cell htb (hes 5 _ rfl)
          obtain⟨bq,hbq⟩:∃ x,x=wr.heap.size:=⟨_,rfl⟩
          obtain⟨wz,hwz⟩:∃ x,x=wr.alloc (.cells #[.int .i64 k4,.string s4,.int .i64 n4,.slice A4 ps4.length c4,.slice B4 fs4.length d4,.slice C4 vs4.length e4] 26):=⟨_,rfl⟩
          have hbz:Below wr.heap.size wr wz:=by rw[hwz];exact (Below.refl _ _).alloc (Nat.le_refl _) _
          have hxz:wz.heap[bq]?=some (.cells #[.int .i64 k4,.string s4,.int .i64 n4,.slice A4 ps4.length c4,.slice B4 fs4.length d4,.slice C4 vs4.length e4] 26 (0,0)):=by rw[hwz,hbq];exact heap_alloc_new wr _
          have KN0:=nodes_any ((hrq.later hbz).later (Below.refl wz.heap.size wz).drew)
          have KN:Hid (Calls Tryz.prog 52 #[.agg #[.int .i64 k4,.string s4,.int .i64 n4,.slice A4 ps4.length c4,.slice B4 fs4.length d4,.slice C4 vs4.length e4]] wz.drew fun e w'=>e=.returned (.int .i64 (Y:Int))∧Below wz.drew.heap.size wz.drew w'):=Hd (KN0.mono fun e w' h=>⟨by rw[hY];exact h.1,h.2⟩)
          have hcp:=HCP.out
          have w12:wrap64 ((n2:Int)+(Y:Int))=(n1:Int):=by rw[wrap_in (by omega) (by omega)];omega
          have v12:IntKind.i64.wrap ((n2:Int)+(Y:Int))=(n1:Int):=(wrap_kindJ _).trans w12
          have hmz:m+1<wr.heap.size:=(Array.getElem?_eq_some_iff.1 hcn).1
          have HCZ:=Hd (box_up hbz hmz hcn)
          have HC:Hid (∀ wx,ButG (fun x=>x=m+1) wz wx→(wx.cell? ⟨bq,0,none⟩=some (.int .i64 k4)∧wx.cell? ⟨bq,1,none⟩=some (.string s4)∧wx.cell? ⟨bq,2,none⟩=some (.int .i64 n4)∧wx.cell? ⟨bq,3,none⟩=some (.slice A4 ps4.length c4)∧wx.cell? ⟨bq,4,none⟩=some (.slice B4 fs4.length d4)∧wx.cell? ⟨bq,5,none⟩=some (.slice C4 vs4.length e4))):=Hd fun wx hx=>by
           obtain⟨a0,a1,a2,a3,a4,a5⟩:=cz6 (hx.up (by show ¬ bq=m+1;omega) hxz)
           exact⟨a0,a1,a2,a3,a4,a5⟩
          have HBZ:=Hd (hbw2.then hbz)
          have HWZ:=Hd hwz
          have HBQ:=Hd hbq
          clear hj hcn hbw2 hex hn2 hll hat hes hrq0 hrq hKb htb hY hYe hn1 hbq hwz hbz hxz KN0 hcp hmz
          go_upto_region 32 with fail
          rw[←HWZ.out,←HBQ.out]
          clear z0 z1 z2 z3 z4 z5
          refine wp_region_held_drew (S:=(fun w'=>(w'.cell? ⟨bq,0,none⟩=some (.int .i64 k4)∧w'.cell? ⟨bq,1,none⟩=some (.string s4)∧w'.cell? ⟨bq,2,none⟩=some (.int .i64 n4)∧w'.cell? ⟨bq,3,none⟩=some (.slice A4 ps4.length c4)∧w'.cell? ⟨bq,4,none⟩=some (.slice B4 fs4.length d4)∧w'.cell? ⟨bq,5,none⟩=some (.slice C4 vs4.length e4)))) (by kernel_rfl) (HC.out _ (ButG.of_below (Below.refl _ _).drew)) (fun hHeld=>?_)
          refine Plan.start [0,1,2,4] ?_
          iterate 4 (refine Plan.tk (so rfl) hHeld ?_;try simp only[Act.put,pz1,pz2,pz3])
          refine Plan.done ?_
          refine wpAnyH_ready (rs:=[3,5]) (by kernel_rfl) (by simp) ?_
          refine AllReadyH.cons (sd (some 174) rfl) (fun Kx hK=>?_) (AllReadyH.cons (sd (some 176) rfl) (fun Kx hK=>?_) AllReadyH.nil)
          have v3:World.cell? (World.drew wz) ⟨m+1,1,none⟩=some (.int .i64 n2):=by rw[Ch (show (World.drew wz).heap[m+1]?=_ from HCZ.out)];rfl
          go_simp
          clear v3
          refine hK.out _ _ (HC.out _ (ButG.of_below (Below.refl _ _).drew)) (fun hHeld=>?_)
          clear hK Kx
          try simp only[Act.put,pz1,pz2,pz3]
          refine wpAnyH_ready (rs:=[5]) (by kernel_rfl) (by simp) ?_
          refine AllReadyH.cons (sd (some 176) rfl) (fun Kx hK=>?_) AllReadyH.nil
          go_simp
          refine KN.out.mono ?_
          rintro e v5 ⟨rfl,hb5⟩
          have HB0:Hid (Below wz.heap.size wz v5):=Hd ((Below.refl wz.heap.size wz).drew.trans hb5)
          clear hb5 KN
          go_wp2_with fail
          refine hK.out _ _ (HC.out _ (ButG.of_below HB0.out)) (fun hHeld=>?_)
          clear hK Kx
          try simp only[Act.put,pz1,pz2,pz3]
          have HC0:=Hd (box_up HB0.out (Array.getElem?_eq_some_iff.1 HCZ.out).1 HCZ.out)
          have v3:=Ch HC0.out 1
          have v4:=Lib.frozen_of_heap HC0.out 1
          simp only[List.getElem?_toArray,List.getElem?_cons_zero,List.getElem?_cons_succ] at v3
          rotate_left
          go_simp
          refine KN.out.mono ?_
          rintro e v5 ⟨rfl,hb5⟩
          have HB0:Hid (Below wz.heap.size wz v5):=Hd ((Below.refl wz.heap.size wz).drew.trans hb5)
          clear hb5 KN
          go_wp2_with fail
          refine hK.out _ _ (HC.out _ (ButG.of_below HB0.out)) (fun hHeld=>?_)
          clear hK Kx
          try simp only[Act.put,pz1,pz2,pz3]
          have HC0:=Hd (box_up HB0.out (Array.getElem?_eq_some_iff.1 HCZ.out).1 HCZ.out)
          have v3:=Ch HC0.out 1
          have v4:=Lib.frozen_of_heap HC0.out 1
          simp only[List.getElem?_toArray,List.getElem?_cons_zero,List.getElem?_cons_succ] at v3
          refine wpAnyH_ready (rs:=[3]) (by kernel_rfl) (by simp) ?_
          refine AllReadyH.cons (sd (some 174) rfl) (fun Kx hK=>?_) AllReadyH.nil
          go_simp
          refine hK.out _ _ (HC.out _ (ButG.of_below HB0.out)) (fun hHeld=>?_)
          clear hK Kx
          try simp only[Act.put,pz1,pz2,pz3]
          all_goals (
           refine Plan.start [6,7,8] ?_
           iterate 3 (refine Plan.tk (so rfl) hHeld ?_;try simp only[Act.put,pz1,pz2,pz3])
           refine Plan.done ?_
           refine wpAnyH_ready (rs:=[9]) (by kernel_rfl) (by simp) ?_
           refine AllReadyH.cons (sd none rfl) (fun Kx hK=>?_) AllReadyH.nil
           go_simp
           clear v3 v4
           refine hK.out _ _ (HC.out _ ((ButG.of_below HB0.out).put1 1 _)) (fun hHeld=>?_)
           clear hK Kx
           try simp only[Act.put,pz1,pz2,pz3]
           refine wpAnyH_done (by kernel_rfl) ?_ _
           clear hHeld
           go_wp2_with fail
           refine⟨⟨j+1,n1,HJn.out,by first | rfl | rw[wr2],six_one HC0.out 1 _,(HBZ.out.trans (ButG.of_below (O:=(fun x=>x=m+1)) HB0.out) fun x h=>.inl h).put1 1 _,?_,Hd ?_⟩,?_⟩
           ·rw[HNXJ.out,←Nat.add_assoc]
            exact HEX.out.stp (f:=fun S _=>S) HE5.out
           ·rw[HNXJ.out,←Nat.add_assoc];exact jc_c HN2I.out.out HM5.out
           ·first | exact HM.out | (rw[wr2];exact HM.out))
         ·have t2:decide ((j:Int)<(l.length:Int))=false:=by simp;omega
          obtain rfl:j=l.length:=by omega
          rw[List.take_length] at hex hn2
          have HEX9:=Hd hex
          have HN9:=Hd hn2
          clear hj hcn hbw2 hex hn2 hll
          have wr1:=HWR1.out
          go_wp2_with fail
          refine⟨⟨i+1,n2,wr,HIn.out,by first | rfl | rw[wr1],rfl,HCN.out,(HBW0.out.then HBB.out).trans HBW2.out fun x h=>.inl h,by rw[HNXI.out,←Nat.add_assoc];exact HEX9.out,Hd (by rw[HNXI.out,←Nat.add_assoc];exact HN9.out.out)⟩,?_⟩
          first | exact HMI.out | (rw[wr1];exact HMI.out)
       ·have t1:decide ((i:Int)<(vs.length:Int))=false:=by simp;omega
        obtain rfl:i=vs.length:=by omega
        rw[List.take_length] at hex hnv
        have HEXF:=Hd hex
        have HNVF:=Hd hnv.out
        have ho:=hbw.up (by have:=HMQ.out;show ¬ q=m+1;omega) HST8.out.out
        obtain⟨b0,b1,b2,b3,b4,b5⟩:=cz6 ho
        obtain⟨x0,-,-,-,-,-⟩:=HX.out _ HB1W.out
        have HLSW:=Hd (((HST8.out.row.but hbw (fun gp h _=>by have h1:=HMG.out;have h2:=HGQ.out;show ¬ gp=m+1;omega) (fun x hx=>((HPP.out x).1 hx).2.1)).list (by have h1:=HLEN.out;have h2:=HC4.out.2.1;omega)).both)
        have HPG:Hid (∀ x,(P x∨(q<x∧A5=some ⟨x,0,none⟩))→¬ x=g∧((K x∨K' x)∨w.heap.size≤x)):=Hd fun x hx=>by
         have h1:=HG.out
         have h2:=HGQ.out
         rcases hx with hx | ⟨hx,-⟩
         ·have h3:=(HPP.out x).1 hx;exact⟨h3.2.2.1,h3.1⟩
         ·exact⟨by omega,.inr (by omega)⟩
        have e0:fs=[]:=List.eq_nil_of_length_eq_zero HZ2.out
        have HSUM:Hid (MF ps.length+cntV vs=n0+NT):=Hd (by rw[HLF.out.2.2.2.2,HND.out.1,e0,fillNf_nil];omega)
        have HE0:=Hd e0
        have HBG:Hid (nv≤n0+cntT (.mk k s n ps fs vs)*4097):=Hd (by rw[HCM.out];exact jc_e HNVF.out (by omega))
        have HMB:Hid (g<wo.heap.size):=Hd (by have h1:=HS1.out;have h2:=HB1W.out.size;omega)
        clear ho e0
        by_cases h15:k=15
        ·have f1:(k == 15)=true:=by simp[h15]
         have hcs:cntL S≤16781312:=Nat.le_trans HCSL.out (Nat.mul_le_mul_right 4097 (show cntL ps≤4096 by have:=HC4.out.1;omega))
         have KU:=union_p _ _ S A5 c5 HLSW.out (by have h:=(flatU_cnt S).1;omega) (fun x hx=>hx.2)
         rw[HLEN.out] at KU
         unfold TyPost at KU
         have HUQ:=Hd (cnt_union S)
         have HUT:Hid (S=LF ps.length→unionT S=UT):=Hd fun he=>by rw[HND.out.2,if_pos h15,he,HLF.out.2.2.2.1]
         generalize unionT S=u8 at KU HUQ HUT
         have HKU:=Hd KU
         clear KU hi hcn hbw hex hnv hlv hcs h15
         go_wp2_with fail
         refine HKU.out.mono ?_
         rintro e w9 ⟨rs,rfl,hr7,hb7⟩
         obtain⟨k8,s8,n8,ps8,fs8,vs8⟩:=u8
         obtain⟨A8,c8,B8,d8,C8,e8,rfl,-⟩:=hr7.inv
         have HR7:=Hd hr7
         have HB7:=Hd hb7
         simp only[cells6T] at HR7 ⊢
         have HB17:Hid (ButG (fun x=>x=m+1) w1 w9):=Hd (HB1W.out.then hb7)
         have rb:=HY.out w9 HB17.out
         clear hr7 hb7 HKU x0 b0 b1 b2 b3 b4 b5 hin t1 f1
         obtain⟨q0,q1,q2,q3,q4,q5,z0,z1,z2,z3,z4,z5⟩:=qz6 rb
         have RBX:=Hd rb
         clear rb
         iterate 7 (first | go_values | go_skip | go_guarded | go_step | go_upon | go_back)
         refine wp_ret ?_
         obtain⟨r0,r1,r2,r3,r4,r5⟩:=cz6 (six_set RBX.out (.int .i64 k8) (.string s8) (.int .i64 n8) (.slice A8 ps8.length c8) (.slice B8 fs8.length d8) (.slice C8 vs8.length e8))
         clear q0 q1 q2 q3 q4 q5 z0 z1 z2 z3 z4 z5
         refine bodyPost_ret (v:=.agg #[.int .i64 k8,.string s8,.int .i64 n8,.slice A8 ps8.length c8,.slice B8 fs8.length d8,.slice C8 vs8.length e8]) (by simp[results,Tryz.results36,go_sem,r0,r1,r2,r3,r4,r5]) rfl ?_
         clear r0 r1 r2 r3 r4 r5
         have HSB:=six_butG w9 g (.int .i64 k8) (.string s8) (.int .i64 n8) (.slice A8 ps8.length c8) (.slice B8 fs8.length d8) (.slice C8 vs8.length e8)
         refine HFIN.out _ _ ⟨[.int .i64 k8,.string s8,.int .i64 n8,.slice A8 ps8.length c8,.slice B8 fs8.length d8,.slice C8 vs8.length e8],.mk k8 s8 n8 ps8 fs8 vs8,nv,rfl,?_,?_,?_,?_,HBG.out,?_,six_butM HB1.out HB17.out HG.out HSB⟩
         ·exact HR7.out.but HSB fun x hx=>by
           have h1:=HMB.out
           have h2:=HG.out
           rcases hx with hx | hx
           ·exact HPG.out x hx.1
           ·exact⟨by omega,.inr (by omega)⟩
         ·exact HSB.up (by have:=HMG.out;show ¬ m+1=g;omega) (box_up HB7.out (Array.getElem?_eq_some_iff.1 HCN0.out).1 HCN0.out)
         ·intro h;have h1:=HEXF.out.1 (by rw[HSUM.out];exact h);exact⟨by rw[←HSUM.out];exact h1.1,HUT.out h1.2⟩
         ·intro h;exact HEXF.out.2 (by rw[HSUM.out];exact h)
         ·rw[HCM.out];exact jc_f HCSL.out HUQ.out
        ·have f1:(k == 15)=false:=beq_eq_false_iff_ne.2 h15
         have HUT:Hid (S=LF ps.length→Ty.mk k s n S fs vs=UT):=Hd fun he=>by
          rw[HND.out.2,if_neg h15,he,HLF.out.2.2.2.1,HE0.out]
          rw[fillFs]
         have rb:=HY.out _ HB1W.out
         clear hi hcn hbw hex hnv hlv h15
         go_upto_region 37 with fail
         obtain⟨q0,q1,q2,q3,q4,q5,z0,z1,z2,z3,z4,z5⟩:=qz6 rb
         have RBX:=Hd rb
         clear rb
         iterate 10 (first | go_values | go_skip | go_guarded | go_step | go_upon | go_back)
         refine wp_ret ?_
         obtain⟨r0,r1,r2,r3,r4,r5⟩:=cz6 (six_set RBX.out (.int .i64 k) (.string s) (.int .i64 n) (.slice A5 ps.length c5) (.slice A6 fs.length c6) (.slice C vs.length e))
         clear q0 q1 q2 q3 q4 q5 z0 z1 z2 z3 z4 z5
         refine bodyPost_ret (v:=.agg #[.int .i64 k,.string s,.int .i64 n,.slice A5 ps.length c5,.slice A6 fs.length c6,.slice C vs.length e]) (by simp[results,Tryz.results36,go_sem,r0,r1,r2,r3,r4,r5]) rfl ?_
         clear r0 r1 r2 r3 r4 r5
         have HSB:=six_butG wo g (.int .i64 k) (.string s) (.int .i64 n) (.slice A5 ps.length c5) (.slice A6 fs.length c6) (.slice C vs.length e)
         refine HFIN.out _ _ ⟨[.int .i64 k,.string s,.int .i64 n,.slice A5 ps.length c5,.slice A6 fs.length c6,.slice C vs.length e],.mk k s n S fs vs,nv,rfl,?_,?_,?_,?_,HBG.out,?_,six_butM HB1.out HB1W.out HG.out HSB⟩
         ·have h:=RepT.of (k:=k) (n:=n) HTS.out (HLSW.out.but HSB fun x hx=>HPG.out x hx.1) (HLE.out (fun x=>(K x∨K' x)∨w.heap.size≤x) _) ((HVS.out _ HB1W.out).but HSB fun x hx=>⟨fun h=>by have h1:=HKK.out x (.inl hx);have h2:=HG.out;omega,.inl (.inl hx)⟩)
          rw[HLEN.out] at h
          exact h
         ·exact HSB.up (by have:=HMG.out;show ¬ m+1=g;omega) HCN0.out
         ·intro h;have h1:=HEXF.out.1 (by rw[HSUM.out];exact h);exact⟨by rw[←HSUM.out];exact h1.1,HUT.out h1.2⟩
         ·intro h;exact HEXF.out.2 (by rw[HSUM.out];exact h)
         ·rw[cntT_mk,cntT_mk];exact jc_g HCSL.out (by rw[HE0.out];simp[cntF])
end Go.Proofs.YtlpfpehegddcfaaGreatDoor
