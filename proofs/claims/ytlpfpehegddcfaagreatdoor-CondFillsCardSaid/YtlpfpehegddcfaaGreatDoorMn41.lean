import Derived.Test.YtlpfpehegddcfaaGreatDoorMn40
namespace Go.Proofs.YtlpfpehegddcfaaGreatDoor
set_option maxRecDepth 100000
set_option maxHeartbeats 64000000
open Go.RowKit
theorem wp_append_fd {B:Nat} {w:World} {v:Value} {l:List (ByteArray×Ty)} {a0:ByteArray×Ty} {rs:List Value} {gg:Nat} {o:Oper} {a:Act} {Kc:Act→World→Prop} {Q:Exit→Act→World→Prop} (sl x:Operand)
  (ho:o.op=.call { callee:=.builtin .append,args:=#[sl,x],argTypes:=#[29,29] }) (hs:a.eval sl=v) (hx:a.eval x=.slice (some ⟨gg,0,none⟩) 1 1)
  (hO:OwnE FdE 32 7 B w v l) (ht:RepT (fun b=>b<w.heap.size∧v.ownBlock≠some b) w a0.2 rs) (hc:∀ j u,(Value.string a0.1 :: rs)[j]?=some u→w.cell? ⟨gg,j,none⟩=some u) (hB:B≤w.heap.size) (hsize:l.length+1≤1000000000)
  (h:∀ v' w',OwnE FdE 32 7 B w' v' (l++[a0])→(∀ B' wa,Below B' wa w→B'≤B→Below B' wa w')→Kc (a.put o.dst v') w') :
  Oper.wp Tryz.prog o a w Kc Q:=by
 have hlt:=fun b (e:v.ownBlock=some b)=>hO.lt e
 obtain⟨vs,hown,hreps⟩:=hO
 obtain⟨i0,hi0,hz0,hz1,hz2⟩:=partsT infoFd
 refine wp_append_own_at sl x 29 ho B 32 i0 _ 7 120 Tryz.underlying29 hi0 hz0 hz1 hz2 (by decide) (by decide) v l.length vs hs hown ⟨gg,0,none⟩ 1 1 (Value.string a0.1 :: rs) hx (by rw[List.length_cons,ht.six]) (fun j u hj=>?_) (fun u hu=>?_) (by simp only[maxLen];omega) (by omega) hB ?_
 ·have e2:((⟨gg,0,none⟩:Addr).add j)=⟨gg,j,none⟩:=by unfold Addr.add;by_cases h0:j=0 <;> simp[h0]
  rw[e2];exact hc j u hj
 ·rcases List.mem_cons.1 hu with rfl | hu
  ·rfl
  ·exact one_cells ht u hu
 ·intro v' w' g1 g2 _ g4
  refine h v' w' (OwnE.push keepFd hown hreps (Below.refl _ _) ⟨rs,rfl,ht⟩ (by rw[List.length_cons,ht.six]) g1 g2 g4).1 fun B' wa hb hB'=>hb.grown g2 (Nat.le_trans hB' hB) fun k hk=>Nat.le_trans hB' (hlt k hk).1
def ResA (w:World) (u:Ty) (z:Int):Ending→World→Prop:=fun e w'=>∃ rs,e=.returned (.tuple #[.agg rs.toArray,.int .i64 z])∧RepT (fun b=>b<w'.heap.size) w' u rs∧Below w.heap.size w w'
theorem ListD.weak {K K':Nat→Prop} {w:World} {l:List (ByteArray×Ty)} {A:Option Addr} {c:Nat} (h:ListD K w l A c) (hk:∀ b,K b→K' b):ListD K' w l A c:=by
 obtain⟨b,o,h1,h2⟩:=h
 refine⟨b,o,⟨h1.le,h1.big,h1.none,fun h=>⟨(h1.some h).1,hk _ (h1.some h).2⟩⟩,fun i hi=>?_⟩
 obtain⟨h3,h4,cs,h5,h6⟩:=h2 i hi
 exact⟨h3,h4,cs,h5,h6.weak hk⟩
theorem OwnE.listD {B:Nat} {w:World} {v:Value} {L:List (ByteArray×Ty)} (h:OwnE FdE 32 7 B w v L) (hl:L.length≤1000000000000000) (hs:∀ f∈L,f.1.size≤1000000000000000):∃ A c,v=.slice A L.length c∧ListD (fun b=>b<w.heap.size) w L A c:=by
 have hc:∃ A c,v=.slice A L.length c∧(A=none→L.length=0∧c=0)∧L.length≤c:=by
  obtain⟨vs,h1,h2⟩:=h
  rcases h1.2 with ⟨hv,hn⟩ | ⟨g,cap,cur,hv,hg,hh,hle,r⟩
  ·exact⟨none,0,by rw[hv,hn],(fun _=>⟨hn,rfl⟩),by omega⟩
  ·exact⟨_,cap,hv,(fun h=>by cases h),hle⟩
 obtain⟨A0,c0,hv0,hn0,hle0⟩:=hc
 obtain⟨A,c,g,o,hv,hA,hat⟩:=h.spread
 rw[hv0] at hv
 injection hv with hv1 _ hv3
 subst hv1
 subst hv3
 refine⟨A0,c0,hv0,⟨g,o,⟨hle0,hl,fun e=>?_,fun h0=>?_⟩,fun i hi=>?_⟩⟩
 ·first | exact hn0 e | exact (hn0 e).2 | exact (hn0 e).1
 ·obtain⟨e1,e2,e3⟩:=hA h0
  exact⟨e1,e3⟩
 ·obtain⟨cs,⟨rs,rfl,h1⟩,h2,h3⟩:=hat i hi
  refine⟨h3 0 _ rfl,hs _ (List.getElem_mem hi),rs,fun j u hj=>?_,h1.weak fun b hb=>hb.1⟩
  have:=h3 (j+1) u (by rw[List.getElem?_cons_succ];exact hj)
  rw[show o+i*7+1+j=o+i*7+(j+1) from by omega]
  exact this
theorem fills_walk {K K':Nat→Prop} {w:World} {p:Ty} {cs:List Value} {L:List (ByteArray×Ty)} {AL:Option Addr} {cL:Nat} (hr:RepT K w p cs) (hL:ListD K' w L AL cL)
  (kf:∃ u z,(∀ wx,Below w.heap.size w wx→Calls Tryz.prog 10 #[.agg cs.toArray,.slice AL L.length cL] wx (ResA wx u z))∧∀ wx A' c',Below w.heap.size w wx→ListD (fun b=>b<wx.heap.size) wx L A' c'→Calls Tryz.prog 11 #[.agg cs.toArray,.slice A' L.length c'] wx (ResA wx u z)) :
  Calls Tryz.prog 3 #[.agg cs.toArray,.slice AL L.length cL] w (fun e w'=>e=.returned (.bool true)∧Below w.heap.size w w'):=by
 obtain⟨u,z,hk1,hk2⟩:=kf
 obtain⟨ku,su,nu,pu,fu,vu⟩:=u
 have K1:=Hd hk1
 have K2:=Hd hk2
 have KN0:=fun wx (hx:Below w.heap.size w wx)=>nod_any p K wx cs (hr.later hx)
 have hcap:∃ X:Nat,X=min (cntT p) 4097:=⟨_,rfl⟩
 obtain⟨X,hX⟩:=hcap
 have hXn:X≤4097:=by omega
 obtain⟨k,s,n,ps,fs,vs⟩:=p
 refine one_pre hr fun A c B d C e w1 h hcs=>?_
 subst hcs
 obtain⟨HX,HB1,HS1,HW1,-⟩:=h
 have HL:=Hd (hL.later HB1.out)
 have HLS:=Hd hL.short
 have KN:Hid (Calls Tryz.prog 8 #[.agg #[.int .i64 k,.string s,.int .i64 n,.slice A ps.length c,.slice B fs.length d,.slice C vs.length e]] w1 fun e w'=>e=.returned (.int .i64 (X:Int))∧Below w1.heap.size w1 w'):=Hd ((KN0 w1 HB1.out).mono fun e w' h=>⟨by rw[hX];exact h.1,h.2.below⟩)
 have HXN:=Hd hXn
 have HSZ:Hid (∀ f∈L,f.1.size≤1000000000000000):=Hd fun f hf=>by
  obtain⟨i,hi,rfl⟩:=List.mem_iff_getElem.1 hf
  obtain⟨_,_,_,hat⟩:=hL
  exact (hat i hi).2.1
 clear hr hL hk1 hk2 KN0 hX hXn
 go_enter Tryz.func3,Tryz.ntmps3
 go_upto_region 1 with fail
 rw[←HW1.out]
 obtain⟨x0,x1,x2,x3,x4,x5⟩:=HX.out _ (Below.refl _ _)
 go_wp2_with fail
 refine KN.out.mono ?_
 rintro e w2 ⟨rfl,hb2⟩
 have HB12:=Hd hb2
 clear hb2 KN x0 x1 x2 x3 x4 x5
 go_wp2_with fail
 go_loopw [5,6,7] (fun nv lv v wr=>∃ (i N:Nat),i≤L.length∧v=.int .i64 i∧nv=.int .i64 N∧i≤N∧N≤20000∧OwnE FdE 32 7 w1.heap.size wr lv (L.take i)∧Below w1.heap.size w1 wr) (fun _ _ v _=>L.length - (intOf v).toNat)
 case atStart=>exact⟨0,X,by omega,rfl,rfl,by omega,by have:=HXN.out;omega,OwnE.nil,HB12.out⟩
 case round=>
  obtain⟨i,N,hi,rfl,rfl,hiN,hN,ho,hb⟩:=hrel
  have HO:=Hd ho
  have HBR:=Hd hb
  obtain⟨A5,c5,rfl,-⟩:=ho.slice
  have hll:=HLS.out
  by_cases hgo:i<L.length∧N≤8192
  ·obtain⟨hin,hN2⟩:=hgo
   have t1:decide ((i:Int)<(L.length:Int))=true:=by simp;omega
   have t2:decide ((N:Int)≤(8192:Int))=true:=decide_eq_true (by omega)
   have t2':(N:Int)≤(8192:Int):=by omega
   have wr2:wrap64 ((i:Int)+1)=((i+1:Nat):Int):=wrap_one (by omega)
   have HM:=Hd (measI hin)
   obtain⟨tb,tq,hA,hKb,hat⟩:=HL.out.at (by omega)
   subst hA
   obtain⟨hn0,hns,es,hes,hrq⟩:=hat i hin
   have HRQ:=Hd (RepT.low _ _ hrq)
   have HTK:Hid (L.take (i+1)=L.take i++[L[i]'hin]∧(L.take i).length+1≤1000000000):=Hd ⟨by rw[List.take_succ_eq_append_getElem hin],by rw[List.length_take];omega⟩
   have KN2:=nod_any (L[i]'hin).2 K' wr es (hrq.later hb)
   obtain⟨Y,hY⟩:∃ Y:Nat,Y=min (cntT (L[i]'hin).2) 4097:=⟨_,rfl⟩
   have hY1:1≤Y:=by have:=cntT_pos (L[i]'hin).2;omega
   have hY2:Y≤4097:=by omega
   have KN:Hid (Calls Tryz.prog 8 #[.agg es.toArray] wr fun e w'=>e=.returned (.int .i64 (Y:Int))∧Below wr.heap.size wr w'):=Hd (KN2.mono fun e w' h=>⟨by rw[hY];exact h.1,h.2.below⟩)
   have HIn:Hid (i+1≤L.length):=Hd hin
   have HNY:Hid (i+1≤N+Y∧N+Y≤20000):=Hd (by omega)
   have wrN:wrap64 ((N:Int)+(Y:Int))=((N+Y:Nat):Int):=by rw[wrap_in (by omega) (by omega)];omega
   clear KN2 hY
   generalize L[i]'hin=ff at hn0 hns hrq HRQ HTK
   obtain⟨nm,u⟩:=ff
   dsimp only at hn0 hns hrq HRQ
   obtain⟨k4,s4,n4,ps4,fs4,vs4⟩:=u
   obtain⟨A4,c4,B4,d4,C4,e4,rfl,-⟩:=hrq.inv
   simp only[cells6T] at hes KN HRQ
   have HC:Hid (∀ wx,Below w1.heap.size w1 wx→(wx.cell? ⟨tb,tq+i*7,none⟩=some (.string nm)∧wx.cell? ⟨tb,tq+i*7+1,none⟩=some (.int .i64 k4)∧wx.cell? ⟨tb,tq+i*7+2,none⟩=some (.string s4)∧wx.cell? ⟨tb,tq+i*7+3,none⟩=some (.int .i64 n4)∧wx.cell? ⟨tb,tq+i*7+4,none⟩=some (.slice A4 ps4.length c4)∧wx.cell? ⟨tb,tq+i*7+5,none⟩=some (.slice B4 fs4.length d4)∧wx.cell? ⟨tb,tq+i*7+6,none⟩=some (.slice C4 vs4.length e4))):=Hd fun wx hx=>⟨cell_stays hx hn0,cell_stays hx (hes 0 _ rfl),cell_stays hx (hes 1 _ rfl),cell_stays hx (hes 2 _ rfl),cell_stays hx (hes 3 _ rfl),cell_stays hx (hes 4 _ rfl),cell_stays hx (hes 5 _ rfl)⟩
   obtain⟨z,z0,z1,z2,z3,z4,z5⟩:=HC.out wr hb
   have i1:(0:Int)≤(i:Int):=by omega
   have i2:(i:Int)<(L.length:Int):=by omega
   clear hi hat hes hrq hll hb hn0 hns hKb hY1 hY2 hN hiN ho
   go_wp2_with fail
   refine KN.out.mono ?_
   rintro e w5 ⟨rfl,hb5⟩
   have HB5:=Hd (HBR.out.trans (hb5.mono HBR.out.size))
   have HO5:=Hd (HO.out.later keepFd hb5)
   clear hb5 KN z z0 z1 z2 z3 z4 z5
   go_upto_region 7 with fail
   refine wp_region_held_drew (S:=(fun w'=>(w'.cell? ⟨tb,tq+i*7,none⟩=some (.string nm)∧w'.cell? ⟨tb,tq+i*7+1,none⟩=some (.int .i64 k4)∧w'.cell? ⟨tb,tq+i*7+2,none⟩=some (.string s4)∧w'.cell? ⟨tb,tq+i*7+3,none⟩=some (.int .i64 n4)∧w'.cell? ⟨tb,tq+i*7+4,none⟩=some (.slice A4 ps4.length c4)∧w'.cell? ⟨tb,tq+i*7+5,none⟩=some (.slice B4 fs4.length d4)∧w'.cell? ⟨tb,tq+i*7+6,none⟩=some (.slice C4 vs4.length e4)))) (by kernel_rfl) (HC.out _ HB5.out.drew) (fun hHeld=>?_)
   refine Plan.start [0,1,2,3,4,5,6,7,8,9,10,11] ?_
   iterate 12 (refine Plan.tk (so rfl) hHeld ?_;try simp only[Act.put,pz1,pz2,pz3])
   refine Plan.done ?_
   refine wpAnyH_ready (rs:=[12]) (by kernel_rfl) (by simp) ?_
   refine AllReadyH.cons (sd (some 44) rfl) (fun Kx hK=>?_) AllReadyH.nil
   go_simp
   generalize hW:World.drew (World.alloc w5 (.cells #[.string nm,.int .i64 k4,.string s4,.int .i64 n4,.slice A4 ps4.length c4,.slice B4 fs4.length d4,.slice C4 vs4.length e4] 32))=w8
   have hb8:Below w5.heap.size w5 w8:=by rw[←hW];exact ((Below.refl _ _).alloc (Nat.le_refl _) _).drew
   have hx8:w8.heap[w5.heap.size]?=some (.cells #[.string nm,.int .i64 k4,.string s4,.int .i64 n4,.slice A4 ps4.length c4,.slice B4 fs4.length d4,.slice C4 vs4.length e4] 32 (0,0)):=by rw[←hW];exact heap_alloc_new w5 _
   have HB8:=Hd hb8
   have HX8:=Hd hx8
   have HZ8:=Hd (HB5.out.trans (hb8.mono HB5.out.size))
   clear hW hb8 hx8
   refine hK.out _ _ (HC.out _ HZ8.out) (fun hHeld=>?_)
   clear hK Kx
   try simp only[Act.put,pz1,pz2,pz3]
   refine wpAnyH_ready (rs:=[13]) (by kernel_rfl) (by simp) ?_
   refine AllReadyH.cons (sd (some 45) rfl) (fun Kx hK=>?_) AllReadyH.nil
   rw[if_pos (by rfl)]
   have HO8:=Hd (HO5.out.later keepFd HB8.out)
   refine wp_append_fd (B:=w1.heap.size) (gg:=w5.heap.size) (a0:=(nm,.mk k4 s4 n4 ps4 fs4 vs4)) (rs:=[.int .i64 k4,.string s4,.int .i64 n4,.slice A4 ps4.length c4,.slice B4 fs4.length d4,.slice C4 vs4.length e4]) (l:=L.take i) _ _ rfl (by first | rfl | (rw[List.length_take];rfl)) (by rfl) HO8.out ?_ ?_ HZ8.out.size HTK.out.2 ?_
   ·refine (HRQ.out.later HZ8.out).weak fun b hb=>⟨Nat.lt_of_lt_of_le hb HZ8.out.size,fun e=>?_⟩
    have:=(HO8.out.lt e).1
    omega
   ·intro j u hj
    rw[Ch HX8.out]
    simpa using hj
   intro v9 w9 ho9 hbw
   have HO9:=Hd ho9
   have HZ9:=Hd (hbw _ _ HZ8.out (Nat.le_refl _))
   clear ho9 hbw
   refine hK.out _ _ (HC.out _ HZ9.out) (fun hHeld=>?_)
   clear hK Kx
   try simp only[Act.put,pz1,pz2,pz3]
   refine Plan.start [14] ?_
   refine Plan.tk (so rfl) hHeld ?_
   try simp only[Act.put,pz1,pz2,pz3]
   refine Plan.done ?_
   refine wpAnyH_done (by kernel_rfl) ?_ _
   clear hHeld
   try clear hHeld
   rw[←HTK.out.1] at HO9
   go_wp2_with fail
   refine⟨⟨i+1,N+Y,HIn.out,by first | rfl | rw[wr2],by first | rfl | rw[wrN],HNY.out.1,HNY.out.2,HO9.out,HZ9.out⟩,?_⟩
   first | exact HM.out | (rw[wr2];exact HM.out)
  ·have hAW:=fun (wx:World)=>awake14 wx
   by_cases hN2:N≤8192
   ·have hin:¬ i<L.length:=fun h=>hgo ⟨h,hN2⟩
    have t1:decide ((i:Int)<(L.length:Int))=false:=by simp;omega
    have t3:decide ((8192:Int)<(N:Int))=false:=decide_eq_false (by omega)
    have t3':¬ (8192:Int)<(N:Int):=by omega
    have hil:L.take i=L:=List.take_of_length_le (by omega)
    have ho2:=HO.out
    rw[hil] at ho2
    obtain⟨Ar,cr,hv,hld⟩:=ho2.listD (by omega) HSZ.out
    have hlt:(L.take i).length=L.length:=by rw[hil]
    injection hv with hv1 hv2 hv3
    subst hv1
    subst hv3
    have HLD:=Hd hld
    have HIL:=Hd hil
    have HN2:=Hd hN2
    clear hgo hi hiN hN ho hb hll ho2 hld hv2 hN2
    rw[hlt]
    clear hil hlt
    go_wp2_with fail
    refine (awake14 _).mono ?_
    rintro e w3 ⟨rfl,hb3⟩
    have HB3:=Hd (HBR.out.trans (hb3.mono HBR.out.size))
    have HLD3:=Hd (HLD.out.later hb3)
    have HWR3:=Hd hb3.size
    clear hb3
    obtain⟨x0,x1,x2,x3,x4,x5⟩:=HX.out _ HB3.out
    go_wp2_with fail
    refine (K1.out w3 (HB1.out.trans (HB3.out.mono HB1.out.size))).mono ?_
    rintro e w5 ⟨rs,rfl,hra,hbj⟩
    obtain⟨Aaa,caa,Baa,daa,Caa,eaa,rfl,-⟩:=hra.inv
    simp only[cells6T] at hra ⊢
    obtain⟨v5,hvj⟩:∃ x,x=w5.alloc (.cells #[.int .i64 ku,.string su,.int .i64 nu,.slice Aaa pu.length caa,.slice Baa fu.length daa,.slice Caa vu.length eaa] 26):=⟨_,rfl⟩
    obtain⟨ga,hg⟩:∃ x,x=w5.heap.size:=⟨_,rfl⟩
    have hbv:Below w5.heap.size w5 v5:=by rw[hvj];exact (Below.refl _ _).alloc (Nat.le_refl _) _
    have hxv:v5.heap[ga]?=some (.cells #[.int .i64 ku,.string su,.int .i64 nu,.slice Aaa pu.length caa,.slice Baa fu.length daa,.slice Caa vu.length eaa] 26 (0,0)):=by rw[hvj,hg];exact heap_alloc_new w5 _
    have HS35:=Hd (hbj.trans (hbv.mono hbj.size))
    have HBv5:=Hd (HB3.out.trans (HS35.out.mono HB3.out.size))
    have HXa:=Hd hxv
    have HRa:=Hd (hra.later hbv)
    have HVa:=Hd hvj
    have HGa:=Hd hg
    clear hra hbj hbv hxv hvj hg K1 x0 x1 x2 x3 x4 x5
    go_upto_region 11 with fail
    rw[←HVa.out,←HGa.out]
    obtain⟨x0,x1,x2,x3,x4,x5⟩:=HX.out _ HBv5.out
    go_wp2_with fail
    refine (K2.out v5 A5 c5 (HB1.out.trans (HBv5.out.mono HB1.out.size)) ?_).mono ?_
    ·exact (HLD3.out.later HS35.out).weak fun b hb=>Nat.lt_of_lt_of_le hb (Nat.le_trans HWR3.out HS35.out.size)
    rintro e w7 ⟨rs,rfl,hrb,hbk⟩
    obtain⟨Abb,cbb,Bbb,dbb,Cbb,ebb,rfl,-⟩:=hrb.inv
    simp only[cells6T] at hrb ⊢
    obtain⟨v7,hvj⟩:∃ x,x=w7.alloc (.cells #[.int .i64 ku,.string su,.int .i64 nu,.slice Abb pu.length cbb,.slice Bbb fu.length dbb,.slice Cbb vu.length ebb] 26):=⟨_,rfl⟩
    obtain⟨gb,hg⟩:∃ x,x=w7.heap.size:=⟨_,rfl⟩
    have hbv:Below w7.heap.size w7 v7:=by rw[hvj];exact (Below.refl _ _).alloc (Nat.le_refl _) _
    have hxv:v7.heap[gb]?=some (.cells #[.int .i64 ku,.string su,.int .i64 nu,.slice Abb pu.length cbb,.slice Bbb fu.length dbb,.slice Cbb vu.length ebb] 26 (0,0)):=by rw[hvj,hg];exact heap_alloc_new w7 _
    have HS57:=Hd (hbk.trans (hbv.mono hbk.size))
    have HBv7:=Hd (HBv5.out.trans (HS57.out.mono HBv5.out.size))
    have HXb:=Hd hxv
    have HRb:=Hd (hrb.later hbv)
    have HVb:=Hd hvj
    have HGb:=Hd hg
    clear hrb hbk hbv hxv hvj hg K2 x0 x1 x2 x3 x4 x5
    go_upto_region 12 with fail
    rw[←HVb.out,←HGb.out]
    obtain⟨a0',a1',a2',a3',a4',a5'⟩:=cz6 (box_up HS57.out (Array.getElem?_eq_some_iff.1 HXa.out).1 HXa.out)
    obtain⟨b0',b1',b2',b3',b4',b5'⟩:=cz6 HXb.out
    have tz:(z == z)=true:=beq_self_eq_true z
    go_wp2_with fail
    refine (same14 (HRa.out.later HS57.out) HRb.out).mono ?_
    rintro e w9 ⟨rfl,hb9⟩
    have HB9:=Hd (HB1.out.trans ((HBv7.out.trans (hb9.mono HBv7.out.size)).mono HB1.out.size))
    rw[show (ordT (.mk ku su nu pu fu vu) (.mk ku su nu pu fu vu) == 0)=true from by rw[beq_iff_eq];exact ordT_zero.2 rfl]
    clear hb9 a0' a1' a2' a3' a4' a5' b0' b1' b2' b3' b4' b5'
    go_wp2_with fail
    go_ret
    exact⟨rfl,HB9.out⟩
   ·have t2:decide ((N:Int)≤(8192:Int))=false:=decide_eq_false (by omega)
    have t2':¬ (N:Int)≤(8192:Int):=by omega
    have t3:decide ((8192:Int)<(N:Int))=true:=decide_eq_true (by omega)
    have t3':(8192:Int)<(N:Int):=by omega
    by_cases hin:i<L.length
    ·have t1:decide ((i:Int)<(L.length:Int))=true:=by simp;omega
     clear hgo hi hiN hN ho hb hll hAW
     go_wp2_with fail
     refine (awake14 _).mono ?_
     rintro e w3 ⟨rfl,hb3⟩
     have HB3:=Hd (HBR.out.trans (hb3.mono HBR.out.size))
     clear hb3
     go_wp2_with fail
     refine (awake14 _).mono ?_
     rintro e w4 ⟨rfl,hb4⟩
     have HB4:=Hd (HB1.out.trans ((HB3.out.trans (hb4.mono HB3.out.size)).mono HB1.out.size))
     clear hb4
     go_wp2_with fail
     go_ret
     exact⟨rfl,HB4.out⟩
    ·have t1:decide ((i:Int)<(L.length:Int))=false:=by simp;omega
     clear hgo hi hiN hN ho hb hll hAW
     go_wp2_with fail
     refine (awake14 _).mono ?_
     rintro e w3 ⟨rfl,hb3⟩
     have HB3:=Hd (HBR.out.trans (hb3.mono HBR.out.size))
     clear hb3
     go_wp2_with fail
     refine (awake14 _).mono ?_
     rintro e w4 ⟨rfl,hb4⟩
     have HB4:=Hd (HB1.out.trans ((HB3.out.trans (hb4.mono HB3.out.size)).mono HB1.out.size))
     clear hb4
     go_wp2_with fail
     go_ret
     exact⟨rfl,HB4.out⟩
theorem ErrPost.res {w w':World} {z:Int} {e:Ending} (h:ErrPost w z e w'):ResA w (tyK 0) z e w':=by
 obtain⟨rfl,hb⟩:=h
 exact⟨[.int .i64 0,.string ⟨#[]⟩,.int .i64 0,.slice none 0 0,.slice none 0 0,.slice none 0 0],rfl,rep_k _ _ 0,hb⟩
theorem RightPost.res {K:Nat→Prop} {w w':World} {t:Ty} {e:Ending} (h:RightPost K w t e w'):ResA w t 0 e w':=by
 obtain⟨rs,rfl,hr,hb⟩:=h
 exact⟨rs,rfl,RepT.low _ _ hr,hb⟩
def ansF (F:ByteArray→Option Ty) (p:Ty) (L:List (ByteArray×Ty)):Ty:=if formedT p=true∧L.all (fun f=>formedT f.2)=true∧fillN F p≤4096 then fillT F p else tyK 0
def errF (F:ByteArray→Option Ty) (p:Ty) (L:List (ByteArray×Ty)):Int:=if formedT p=true∧L.all (fun f=>formedT f.2)=true then (if fillN F p≤4096 then 0 else 10) else 4
theorem rfill_res {K K':Nat→Prop} {w:World} {p:Ty} {cs:List Value} {L:List (ByteArray×Ty)} {AL:Option Addr} {cL:Nat} {F:ByteArray→Option Ty} (hr:RepT K w p cs) (hL:ListD K' w L AL cL) (hlo:∀ x,K x∨K' x→x<w.heap.size)
  (kf:formedT p=true→L.all (fun f=>formedT f.2)=true→∀ (wx:World) (b:Nat),Below w.heap.size w wx→w.heap.size≤b→wx.heap[b]?=some (.cells #[.int .i64 0] 75 (0,0))→Calls Tryz.prog 37 #[.pointer (some ⟨b,0,none⟩),.agg cs.toArray,.slice AL L.length cL] wx (FillA (fun x=>(K x∨K' x)∨wx.heap.size≤x) b 75 wx F p 0)) :
  Calls Tryz.prog 11 #[.agg cs.toArray,.slice AL L.length cL] w (ResA w (ansF F p L) (errF F p L)):=by
 unfold ansF errF
 cases hp:formedT p with
 | false=>
  rw[if_neg (fun h=>by cases h.1),if_neg (fun h=>by cases h.1)]
  exact (rfill_bad hr hp).mono fun e w' h=>h.res
 | true=>
  have h:=rfill_any (F:=F) hr hL hlo hp (kf hp)
  cases ha:L.all (fun f=>formedT f.2) with
  | false=>
   rw[ha,if_neg (by decide)] at h
   rw[if_neg (fun h=>by cases h.2.1),if_neg (fun h=>by cases h.2)]
   exact h.mono fun e w' h=>h.res
  | true=>
   rw[ha,if_pos rfl] at h
   by_cases hn:fillN F p≤4096
   ·rw[if_pos hn] at h
    rw[if_pos ⟨rfl,rfl,hn⟩,if_pos ⟨rfl,rfl⟩,if_pos hn]
    exact h.mono fun e w' h=>h.res
   ·rw[if_neg hn] at h
    rw[if_neg (fun h=>hn h.2.2),if_pos ⟨rfl,rfl⟩,if_neg hn]
    exact h.mono fun e w' h=>h.res
end Go.Proofs.YtlpfpehegddcfaaGreatDoor
