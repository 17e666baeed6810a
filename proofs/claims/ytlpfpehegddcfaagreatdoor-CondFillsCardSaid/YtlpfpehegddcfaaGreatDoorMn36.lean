import Derived.Test.YtlpfpehegddcfaaGreatDoorMn33
namespace Go.Proofs.YtlpfpehegddcfaaGreatDoor
set_option maxRecDepth 100000
set_option maxHeartbeats 64000000
open Go.RowKit
theorem rfill_c {K K':Nat→Prop} {w:World} {k:Int} {s:ByteArray} {n:Int} {ps:List Ty} {fs:FsT} {vs:VsT} {cs:List Value} {b n0:Nat} {L:List (ByteArray×Ty)} {AL:Option Addr} {cL:Nat} {F:ByteArray→Option Ty} (hk21:k=21) (hz2:fs.length=0) (hz3:vs.length=0) (hfm:formT (.mk k s n ps fs vs)=true) (hct:cntT (.mk k s n ps fs vs)≤4096) (hr:RepT K w (.mk k s n ps fs vs) cs) (hL:ListD K' w L AL cL) (hK:∀ x,K x∨K' x→x<w.heap.size∧x≠b) (hbx:w.heap[b]?=some (.cells #[.int .i64 n0] 75 (0,0))) (hn0:n0≤4096) (hF:∀ s u,F s=some u→formT u=true∧cntT u≤4096) (hFL:F=lookD L)
  (ihp:∀ p∈ps,FillIh K K' b L AL cL F p) (ihf:∀ f∈fs,FillIh K K' b L AL cL F f.2.2) :
  Calls Tryz.prog 37 #[.pointer (some ⟨b,0,none⟩),.agg cs.toArray,.slice AL L.length cL] w (FillA (fun x=>(K x∨K' x)∨w.heap.size≤x) b 75 w F (.mk k s n ps fs vs) n0):=by
 have hbw:b<w.heap.size:=(Array.getElem?_eq_some_iff.1 hbx).1
 refine fill_pre hr hbw (fun x hx=>hK x (.inl hx)) fun A c B d C e w1 g h hcs=>?_
 subst hcs
 obtain⟨HX,HY,HB1,HS1,HG,HW1,HP,HFS,HVS,HK1,HBW,HTS⟩:=h
 have HKK:=Hd hK
 have HLD:Hid (∀ wx,ButG (fun x=>x=b∨x=g+1) w1 wx→ListD K' wx L AL cL):=Hd fun wx hx=>(hL.later HB1.out).but hx fun x h=>⟨fun h'=>by have h1:=hK x (.inr h);have h2:=HG.out;rcases h' with h' | h' <;> omega,h⟩
 have HC1:Hid (w1.heap[b]?=some (.cells #[.int .i64 n0] 75 (0,0))):=Hd (box_up HB1.out hbw hbx)
 have HGB:Hid (b<g):=Hd (by have:=HG.out;omega)
 obtain⟨P,hP⟩:∃ P:Nat→Prop,P=fun x=>((K x∨K' x)∨w.heap.size≤x)∧x≠b∧x≠g+1∧x≠g:=⟨_,rfl⟩
 have HPP:Hid (∀ x,P x↔((K x∨K' x)∨w.heap.size≤x)∧x≠b∧x≠g+1∧x≠g):=Hd fun x=>by rw[hP]
 rw[cntT_mk] at hct
 have hlps:=lenJ ps
 have hlfs:=lenFJ fs
 have HCT:Hid (1+(cntL ps+(cntF fs+cntV vs))≤4096∧ps.length≤4096∧fs.length≤4096):=Hd ⟨by omega,by omega,by omega⟩
 have HN0:=Hd hn0
 have HIP:=Hd ihp
 have HIF:=Hd ihf
 have HFF:=Hd hF
 have HFM:=Hd hfm
 obtain⟨LF,hLF⟩:∃ LF:Nat→List Ty,LF=fun i=>fillPs F k 0 (ps.take i):=⟨_,rfl⟩
 obtain⟨MF,hMF⟩:∃ MF:Nat→Nat,MF=fun i=>n0+1+fillNs F k 0 (ps.take i):=⟨_,rfl⟩
 obtain⟨LG,hLG⟩:∃ LG:Nat→FsT,LG=fun i=>fillFs F (fs.take i):=⟨_,rfl⟩
 obtain⟨MG,hMG⟩:∃ MG:Nat→Nat,MG=fun i=>n0+1+fillNs F k 0 ps+fillNf F (fs.take i):=⟨_,rfl⟩
 have HLF:Hid (LF 0=[]∧MF 0=n0+1∧(∀ i (h:i<ps.length),LF (i+1)=LF i++[if k=21∧i=1 then ps[i]'h else fillT F (ps[i]'h)]∧MF (i+1)=MF i+(if k=21∧i=1 then cntT (ps[i]'h) else fillN F (ps[i]'h)))∧LF ps.length=fillPs F k 0 ps∧MF ps.length=n0+1+fillNs F k 0 ps∧∀ i,MF i≤MF ps.length):=Hd (by
  subst hLF hMF
  refine⟨by simp only[List.take_zero];rw[fillPs],by simp only[List.take_zero];rw[fillNs],fun i h=>⟨fillPs_next k ps i h,?_⟩,by simp only[List.take_length],by simp only[List.take_length],fun i=>?_⟩
  ·have:=fillNs_next (F:=F) k ps 0 i h
   rw[Nat.zero_add] at this
   simp only[this];omega
  ·have:=fillNs_le (F:=F) k ps 0 i
   simp only[List.take_length];omega)
 have HLG:Hid (LG 0=[]∧MG 0=MF ps.length∧(∀ i (h:i<fs.length),LG (i+1)=LG i++[((fs[i]'h).1,(fs[i]'h).2.1,fillT F (fs[i]'h).2.2)]∧MG (i+1)=MG i+fillN F (fs[i]'h).2.2)∧LG fs.length=fillFs F fs∧MG fs.length=n0+1+fillNs F k 0 ps+fillNf F fs∧∀ i,MG i≤MG fs.length):=Hd (by
  have e0:=HLF.out.2.2.2.2.1
  subst hLG hMG
  refine⟨by simp only[List.take_zero];rw[fillFs],by simp only[List.take_zero];rw[fillNf_nil,e0];omega,fun i h=>⟨fillFs_next fs i h,?_⟩,by simp only[List.take_length],by simp only[List.take_length],fun i=>?_⟩
  ·have:=fillNf_next (F:=F) fs i h
   simp only[this];omega
  ·have:=fillNf_le (F:=F) fs i
   simp only[List.take_length];omega)
 have HND:Hid ((k=22→F s=none)→fillN F (.mk k s n ps fs vs)=1+(fillNs F k 0 ps+(fillNf F fs+cntV vs))∧fillT F (.mk k s n ps fs vs)=if k=15 then unionT (fillPs F k 0 ps) else .mk k s n (fillPs F k 0 ps) (fillFs F fs) vs):=Hd fun h=>by
  have hn:¬ (k=22∧(F s).isSome=true):=fun h'=>by rw[h h'.1] at h';cases h'.2
  rw[fillN,fillT,if_neg hn,if_neg hn]
  exact⟨rfl,rfl⟩
 have HFD:Hid (k=22→∀ u,F s=some u→fillN F (.mk k s n ps fs vs)=cntT u∧fillT F (.mk k s n ps fs vs)=u):=Hd fun h u hu=>by
  have hn:k=22∧(F s).isSome=true:=⟨h,by rw[hu];rfl⟩
  rw[fillN,fillT,if_pos hn,if_pos hn,hu]
  exact⟨rfl,rfl⟩
 have HLK:Hid (∀ i (h:i<L.length),(∀ f∈L.take i,f.1≠s)→(L[i]'h).1=s→F s=some (L[i]'h).2):=Hd fun i h h1 h2=>by
  rw[hFL]
  unfold lookD
  have e:L.take i++(L[i]'h) :: L.drop (i+1)=L:=by rw[←List.drop_eq_getElem_cons h];exact List.take_append_drop i L
  have h3:(L.take i++(L[i]'h) :: L.drop (i+1)).find? (fun f=>decide (f.1=s))=some (L[i]'h):=by
   rw[List.find?_append,List.find?_eq_none.2 (fun f hf=>by simpa using h1 f hf),List.find?_cons,decide_eq_true h2]
   rfl
  have h4:L.find? (fun f=>decide (f.1=s))=some (L[i]'h):=by
   conv=>lhs;rw[←e]
   exact h3
  rw[h4]
  rfl
 have HLN:Hid ((∀ f∈L,f.1≠s)→F s=none):=Hd fun h1=>by
  rw[hFL]
  unfold lookD
  rw[List.find?_eq_none.2 (fun f hf=>by simpa using h1 f hf)]
  rfl
 have HLS:=Hd hL.short
 generalize hNT:fillN F (.mk k s n ps fs vs)=NT at HND HFD
 generalize hUT:fillT F (.mk k s n ps fs vs)=UT at HND HFD
 obtain⟨PO,hPO⟩:∃ PO:Ending→World→Prop,PO=FillA (fun x=>(K x∨K' x)∨w.heap.size≤x) b 75 w F (.mk k s n ps fs vs) n0:=⟨_,rfl⟩
 have HFIN:Hid (∀ e w',(∃ (rs:List Value) (u:Ty) (n1:Nat),e=.returned (.agg rs.toArray)∧RepT (fun x=>(K x∨K' x)∨w.heap.size≤x) w' u rs∧w'.heap[b]?=some (.cells #[.int .i64 n1] 75 (0,0))∧(n0+NT≤4096→n1=n0+NT∧u=UT)∧(4096<n0+NT→4096<n1)∧n1≤8192+(1+(cntL ps+(cntF fs+cntV vs)))∧cntT u≤(1+(cntL ps+(cntF fs+cntV vs)))*4097∧ButG (fun x=>x=b) w w')→PO e w'):=Hd fun e w' h=>by
  rw[hPO]
  unfold FillA
  rw[hNT,hUT,cntT_mk]
  exact h
 rw[←hPO]
 have HHK:Hid (∀ wx,ButG (fun x=>x=b∨x=g+1) w1 wx→∀ x,K x∨K' x→x<wx.heap.size∧x≠b):=Hd fun wx hx x h=>by have h1:=hK x h;have h2:=hx.size;have h3:=HB1.out.size;exact⟨by omega,h1.2⟩
 clear hr hL hK hbx hn0 hF hFL ihp ihf hct hlps hlfs hP hLF hMF hLG hMG hNT hUT hbw hfm hPO
 have HZ2:=Hd hz2
 have HZ3:=Hd hz3
 have HK21:=Hd hk21
 clear hz2 hz3 hk21
 go_enter Tryz.func37,Tryz.ntmps37
 go_upto_region 1 with fail
 rw[←HW1.out,←HG.out]
 obtain⟨x0,x1,x2,x3,x4,x5⟩:=HX.out _ (ButG.refl _ _)
 go_upto_if 16 with fail
 go_cut [] from 14 (fun wx=>(k=22→F s=none)∧Below w1.heap.size w1 wx∧wx.heap.size=w1.heap.size)
 case first=>
  have h22:k≠22:=by have:=HK21.out;omega
  have f22:(k == 22)=false:=beq_eq_false_iff_ne.2 h22
  have HN22:=Hd h22
  clear h22
  go_wp2_with fail
  go_meet
  exact⟨fun h=>absurd h HN22.out,Below.refl _ _,rfl⟩
 case rest=>
  obtain⟨h22n,hbc,hsc⟩:=hcut
  have HND2:=Hd (HND.out h22n)
  have hc0:=box_up hbc (Array.getElem?_eq_some_iff.1 HC1.out).1 HC1.out
  have c0:=Ch hc0 0
  have c1:=Lib.frozen_of_heap hc0 0
  simp only[List.getElem?_toArray,List.getElem?_cons_zero] at c0
  obtain⟨N2,hN2⟩:∃ N2:Nat,N2=n0+1:=⟨_,rfl⟩
  have wr1:wrap64 ((n0:Int)+1)=(N2:Int):=by rw[hN2];exact wrap_one (by have:=HN0.out;omega)
  have HN2:=Hd hN2
  clear hN2
  obtain⟨w2,hw2⟩:∃ x,x=wc.setCell ⟨b,0,none⟩ (.int .i64 (N2:Int)):=⟨_,rfl⟩
  have hb2:ButG (fun x=>x=b∨x=g+1) w1 w2:=by rw[hw2];exact ButG.set (O:=(fun x=>x=b∨x=g+1)) (p:=⟨b,0,none⟩) (ButG.of_below hbc) (.inl (.inl rfl)) _
  have hc2:w2.heap[b]?=some (.cells #[.int .i64 N2] 75 (0,0)):=by rw[hw2];exact one_set hc0 _
  have hs2:w2.heap.size=g+1:=by rw[hw2];have:=HS1.out;simp[World.setCell];omega
  obtain⟨w3,hw3⟩:∃ x,x=w2.alloc (.cells #[.int .i64 k,.string s,.int .i64 n,.slice A ps.length c,.slice B fs.length d,.slice C vs.length e] 26):=⟨_,rfl⟩
  have hb23:Below w2.heap.size w2 w3:=by rw[hw3];exact (Below.refl _ _).alloc (Nat.le_refl _) _
  have hx3:w3.heap[g+1]?=some (.cells #[.int .i64 k,.string s,.int .i64 n,.slice A ps.length c,.slice B fs.length d,.slice C vs.length e] 26 (0,0)):=by
   have h:=heap_alloc_new w2 (.cells #[.int .i64 k,.string s,.int .i64 n,.slice A ps.length c,.slice B fs.length d,.slice C vs.length e] 26)
   rw[hs2] at h
   rw[hw3];exact h
  have hb3:ButG (fun x=>x=b∨x=g+1) w1 w3:=hb2.then hb23
  have hc3:=box_up hb23 (Array.getElem?_eq_some_iff.1 hc2).1 hc2
  obtain⟨w4,hw4⟩:∃ x,x=(w3.setCell ⟨g+1,3,none⟩ (.slice none 0 0)).setCell ⟨g+1,4,none⟩ (.slice none 0 0):=⟨_,rfl⟩
  have HST4:Hid (St1 P b g k s n (.slice C vs.length e) w1 w4 N2 none 0 []):=Hd (by
   have hgb:=HGB.out
   have e1:=six_one (six_one hx3 3 (.slice none 0 0)) 4 (.slice none 0 0)
   have hne:b≠g+1:=by omega
   refine⟨?_,?_,OwnE.nil,?_⟩
   ·rw[hw4,Below.heap_setCell _ _ _ _ hne,Below.heap_setCell _ _ _ _ hne];exact hc3
   ·rw[hw4];exact e1
   ·rw[hw4];exact ButG.set (O:=(fun x=>x=b∨x=g+1)) (p:=⟨g+1,4,none⟩) (ButG.set (O:=(fun x=>x=b∨x=g+1)) (p:=⟨g+1,3,none⟩) hb3 (.inl (.inr rfl)) _) (.inl (.inr rfl)) _)
  have HW2:=Hd hw2
  have HW3:=Hd hw3
  have HW4:=Hd hw4
  have HS2:=Hd hs2
  have HB2:=Hd hb2
  have HX3:=Hd hx3
  have HSZ4:Hid (g+2≤w4.heap.size):=Hd (by rw[hw4];simp[World.setCell,hw3,hs2])
  clear h22n hbc hsc hc0 hw2 hb2 hc2 hs2 hw3 hb23 hx3 hb3 hc3 hw4
  go_upto_region 9 with fail
  rw[←HW2.out]
  clear c0 c1
  obtain⟨x0,x1,x2,x3,x4,x5⟩:=HX.out _ HB2.out
  go_upto_region 10 with fail
  rw[←HW3.out,HS2.out]
  clear x0 x1 x2 x3 x4 x5
  obtain⟨q0,q1,q2,q3,q4,q5,z0,z1,z2,z3,z4,z5⟩:=qz6 HX3.out
  go_upto_region 12 with fail
  rw[←HW4.out]
  clear q0 q1 q2 q3 q4 q5 z0 z1 z2 z3 z4 z5
  go_upto_block 2 with fail
  clear wr1
  go_cut [] from 14 (fun wx=>∃ (m:Nat) (A5:Option Addr) (c5:Nat) (S:List Ty),St1 P b g k s n (.slice C vs.length e) w1 wx m A5 c5 S∧g+2≤wx.heap.size∧Exact m (MF ps.length) S (LF ps.length)∧m≤8192+cntL ps∧cntL S≤cntL ps*4097∧S.length≤4096)
  case first=>
   go_wp2_with fail
   go_loopw [9] (fun v wr=>∃ (i m:Nat) (A5:Option Addr) (c5:Nat) (S:List Ty),i≤ps.length∧v=.int .i64 i∧St1 P b g k s n (.slice C vs.length e) w1 wr m A5 c5 S∧g+2≤wr.heap.size∧S.length=i∧Exact m (MF i) S (LF i)∧m≤8192+cntL ps∧cntL S≤cntL (ps.take i)*4097) (fun v _=>ps.length - (intOf v).toNat)
   case atStart=>exact⟨0,N2,none,0,[],by (go_light;omega),rfl,HST4.out,HSZ4.out,rfl,by rw[HLF.out.1,HLF.out.2.1,HN2.out];exact⟨fun _=>⟨rfl,rfl⟩,fun h=>h⟩,by have:=HN0.out;have:=HN2.out;(go_light;omega),by simp[cntL]⟩
   case round=>
    obtain⟨i,m,A5,c5,S,hi,rfl,hst,hsz,hlen,hex,hmb,hcs⟩:=hrel
    have HST:=Hd hst
    have HSZ:=Hd hsz
    have HBT:=Hd hst.but
    have HEX:=Hd hex
    have HCS:=Hd hcs
    have HLN5:=Hd hlen
    have HMB:=Hd hmb
    clear hmb hcs
    obtain⟨x0,x1,x2,x3,x4,x5⟩:=HX.out _ hst.but
    have c0:=Ch hst.cnt 0
    simp only[List.getElem?_toArray,List.getElem?_cons_zero] at c0
    have hlp:=HCT.out.2.1
    by_cases hgo:i<ps.length∧m≤4096
    ·obtain⟨hin,hm⟩:=hgo
     have t1:decide ((i:Int)<(ps.length:Int))=true:=by simp;(go_light;omega)
     have t2:decide ((m:Int)≤(4096:Int))=true:=decide_eq_true (by (go_light;omega))
     have t2':(m:Int)≤(4096:Int):=by (go_light;omega)
     have wr2:wrap64 ((i:Int)+1)=((i+1:Nat):Int):=wrap_one (by (go_light;omega))
     have HM:=Hd (measI hin)
     have HM4:=Hd hm
     obtain⟨tb,tq,hA,hKb,hat⟩:=(HP.out wr hst.but).at (by (go_light;omega))
     subst hA
     obtain⟨es,hes,hrq⟩:=hat i hin
     have HTB:Hid (¬ (tb=b∨g+1≤tb)):=Hd (by have h1:=HHK.out w1 (ButG.refl _ _) tb (.inl hKb);have h2:=HS1.out;(go_light;omega))
     have hnx:=HLF.out.2.2.1 i hin
     have hih:=HIP.out (ps[i]'hin) (List.getElem_mem hin)
     have HIn:Hid (i+1≤ps.length):=Hd hin
     have HLEN:Hid (S.length+1≤1099511627776):=Hd (by (go_light;omega))
     have HCU:Hid (cntT (ps[i]'hin)≤cntL ps∧cntL (ps.take (i+1))=cntL (ps.take i)+cntT (ps[i]'hin)):=Hd ⟨cntL_mem (List.getElem_mem hin),cntL_next hin⟩
     have i1:(0:Int)≤(i:Int):=by (go_light;omega)
     have i2:(i:Int)<(ps.length:Int):=by (go_light;omega)
     generalize ps[i]'hin=u0 at hrq hnx hih HCU
     by_cases hcd:k=21∧i=1
     ·obtain⟨h21,hi1⟩:=hcd
      have f15:(k == 21)=true:=by simp[h21]
      have f16:((i:Int) == 1)=true:=by simp[hi1]
      rw[if_pos ⟨h21,hi1⟩,if_pos ⟨h21,hi1⟩] at hnx
      have HNX:=Hd hnx
      have j2:(1:Int)<(ps.length:Int):=by (go_light;omega)
      have e6:tq+i*6=tq+6:=by (go_light;omega)
      rw[e6] at hes
      have KN0:=nod_any u0 K wr.drew es (hrq.later (Below.refl _ _).drew)
      have hrq0:=hrq
      obtain⟨k4,s4,n4,ps4,fs4,vs4⟩:=u0
      obtain⟨A4,c4,B4,d4,C4,e4,rfl,-⟩:=hrq.inv
      simp only[cells6T] at hes KN0 hrq0
      obtain⟨Y,hY⟩:∃ Y:Nat,Y=min (cntT (.mk k4 s4 n4 ps4 fs4 vs4)) 4097:=⟨_,rfl⟩
      have hY1:Y≤4097:=by (go_light;omega)
      obtain⟨n1,hn1⟩:∃ n1,n1=m+Y:=⟨_,rfl⟩
      have KN:Hid (Calls Tryz.prog 8 #[.agg #[.int .i64 k4,.string s4,.int .i64 n4,.slice A4 ps4.length c4,.slice B4 fs4.length d4,.slice C4 vs4.length e4]] wr.drew fun e w'=>e=.returned (.int .i64 (Y:Int))∧Below wr.drew.heap.size wr.drew w'):=Hd (KN0.mono fun e w' h=>⟨by rw[hY];exact h.1,h.2.below⟩)
      have w12:wrap64 ((m:Int)+(Y:Int))=(n1:Int):=by rw[wrap_in (by (go_light;omega)) (by (go_light;omega))];(go_light;omega)
      have v12:IntKind.i64.wrap ((m:Int)+(Y:Int))=(n1:Int):=(wrap_kindJ _).trans w12
      have HRQ:=Hd hrq0
      have HYY:=Hd hY
      have HN1:=Hd hn1
      have HC:Hid (∀ wx,ButG (fun x=>x=b∨g+1≤x) wr wx→wx.cell? ⟨w.heap.size,3,none⟩=some (.slice (some ⟨tb,tq,none⟩) ps.length c)∧(wx.cell? ⟨tb,tq+6,none⟩=some (.int .i64 k4)∧wx.cell? ⟨tb,tq+6+1,none⟩=some (.string s4)∧wx.cell? ⟨tb,tq+6+2,none⟩=some (.int .i64 n4)∧wx.cell? ⟨tb,tq+6+3,none⟩=some (.slice A4 ps4.length c4)∧wx.cell? ⟨tb,tq+6+4,none⟩=some (.slice B4 fs4.length d4)∧wx.cell? ⟨tb,tq+6+5,none⟩=some (.slice C4 vs4.length e4))):=Hd fun wx hx=>by
       have hbw:=HBT.out.trans hx fun x h=>h.imp .inl fun h=>by have:=HS1.out;(go_light;omega)
       obtain⟨_,_,_,h3,_,_⟩:=HX.out wx hbw
       have htb:=HTB.out
       exact⟨h3,hx.cell htb (hes 0 _ rfl),hx.cell htb (hes 1 _ rfl),hx.cell htb (hes 2 _ rfl),hx.cell htb (hes 3 _ rfl),hx.cell htb (hes 4 _ rfl),hx.cell htb (hes 5 _ rfl)⟩
      clear hnx hrq0 hY hY1 hn1 KN0 hes hrq h21 hi1 e6 hi hst hex hlen hat hm hKb hsz hlp hih
      go_upto_region 16 with fail
      clear x0 x1 x2 x3 x4 x5 c0
      refine wp_region_held_drew (S:=(fun w'=>w'.cell? ⟨w.heap.size,3,none⟩=some (.slice (some ⟨tb,tq,none⟩) ps.length c)∧(w'.cell? ⟨tb,tq+6,none⟩=some (.int .i64 k4)∧w'.cell? ⟨tb,tq+6+1,none⟩=some (.string s4)∧w'.cell? ⟨tb,tq+6+2,none⟩=some (.int .i64 n4)∧w'.cell? ⟨tb,tq+6+3,none⟩=some (.slice A4 ps4.length c4)∧w'.cell? ⟨tb,tq+6+4,none⟩=some (.slice B4 fs4.length d4)∧w'.cell? ⟨tb,tq+6+5,none⟩=some (.slice C4 vs4.length e4)))) (by kernel_rfl) (HC.out _ (ButG.of_below (Below.refl _ _).drew)) (fun hHeld=>?_)
      refine Plan.start [0,1,2,4,5,6,7] ?_
      iterate 7 (refine Plan.tk (so rfl) hHeld ?_;try simp only[Act.put,pz1,pz2,pz3])
      refine Plan.done ?_
      refine wpAnyH_ready (rs:=[3,8]) (by kernel_rfl) (by simp) ?_
      refine AllReadyH.cons (sd (some 83) rfl) (fun Kx hK=>?_) (AllReadyH.cons (sd (some 88) rfl) (fun Kx hK=>?_) AllReadyH.nil)
      have v3:World.cell? wr.drew ⟨b,0,none⟩=some (.int .i64 m):=by rw[Ch (show wr.drew.heap[b]?=_ from HST.out.cnt)];rfl
      go_simp
      clear v3
      refine hK.out _ _ (HC.out _ (ButG.of_below (Below.refl _ _).drew)) (fun hHeld=>?_)
      clear hK Kx
      try simp only[Act.put,pz1,pz2,pz3]
      refine wpAnyH_ready (rs:=[8]) (by kernel_rfl) (by simp) ?_
      refine AllReadyH.cons (sd (some 88) rfl) (fun Kx hK=>?_) AllReadyH.nil
      go_simp
      refine KN.out.mono ?_
      rintro e v5 ⟨rfl,hb5⟩
      have HB0:Hid (Below wr.heap.size wr v5):=Hd ((Below.refl wr.heap.size wr).drew.trans hb5)
      clear hb5 KN
      go_wp2_with fail
      refine hK.out _ _ (HC.out _ (ButG.of_below HB0.out)) (fun hHeld=>?_)
      clear hK Kx
      try simp only[Act.put,pz1,pz2,pz3]
      have HC0:=Hd (box_up HB0.out (Array.getElem?_eq_some_iff.1 HST.out.cnt).1 HST.out.cnt)
      have v3:=Ch HC0.out 0
      have v4:=Lib.frozen_of_heap HC0.out 0
      simp only[List.getElem?_toArray,List.getElem?_cons_zero] at v3
      rotate_left
      go_simp
      refine KN.out.mono ?_
      rintro e v5 ⟨rfl,hb5⟩
      have HB0:Hid (Below wr.heap.size wr v5):=Hd ((Below.refl wr.heap.size wr).drew.trans hb5)
      clear hb5 KN
      go_wp2_with fail
      refine hK.out _ _ (HC.out _ (ButG.of_below HB0.out)) (fun hHeld=>?_)
      clear hK Kx
      try simp only[Act.put,pz1,pz2,pz3]
      have HC0:=Hd (box_up HB0.out (Array.getElem?_eq_some_iff.1 HST.out.cnt).1 HST.out.cnt)
      have v3:=Ch HC0.out 0
      have v4:=Lib.frozen_of_heap HC0.out 0
      simp only[List.getElem?_toArray,List.getElem?_cons_zero] at v3
      refine wpAnyH_ready (rs:=[3]) (by kernel_rfl) (by simp) ?_
      refine AllReadyH.cons (sd (some 83) rfl) (fun Kx hK=>?_) AllReadyH.nil
      go_simp
      refine hK.out _ _ (HC.out _ (ButG.of_below HB0.out)) (fun hHeld=>?_)
      clear hK Kx
      try simp only[Act.put,pz1,pz2,pz3]
      all_goals (
       refine Plan.start [9,10,11] ?_
       iterate 3 (refine Plan.tk (so rfl) hHeld ?_;try simp only[Act.put,pz1,pz2,pz3])
       refine Plan.done ?_
       refine wpAnyH_ready (rs:=[12]) (by kernel_rfl) (by simp) ?_
       refine AllReadyH.cons (sd none rfl) (fun Kx hK=>?_) AllReadyH.nil
       go_simp
       clear v3 v4
       obtain⟨w6,hw6⟩:∃ x,x=v5.setCell ⟨b,0,none⟩ (.int .i64 (n1:Int)):=⟨_,rfl⟩
       have hb6:ButG (fun x=>x=b) wr w6:=by rw[hw6];exact (ButG.of_below HB0.out).put1 0 _
       have hc6:w6.heap[b]?=some (.cells #[.int .i64 n1] 75 (0,0)):=by rw[hw6];exact one_set HC0.out _
       have HB6:=Hd hb6
       have HC6:=Hd hc6
       rw[←hw6]
       clear hw6 hb6 hc6
       refine hK.out _ _ (HC.out _ (HB6.out.mono fun x h=>.inl h)) (fun hHeld=>?_)
       clear hK Kx
       try simp only[Act.put,pz1,pz2,pz3]
       refine wpAnyH_done (by kernel_rfl) ?_ _
       clear hHeld
       go_upto_region 17 with fail
       refine wp_region_held_drew (S:=(fun w'=>w'.cell? ⟨w.heap.size,3,none⟩=some (.slice (some ⟨tb,tq,none⟩) ps.length c)∧(w'.cell? ⟨tb,tq+6,none⟩=some (.int .i64 k4)∧w'.cell? ⟨tb,tq+6+1,none⟩=some (.string s4)∧w'.cell? ⟨tb,tq+6+2,none⟩=some (.int .i64 n4)∧w'.cell? ⟨tb,tq+6+3,none⟩=some (.slice A4 ps4.length c4)∧w'.cell? ⟨tb,tq+6+4,none⟩=some (.slice B4 fs4.length d4)∧w'.cell? ⟨tb,tq+6+5,none⟩=some (.slice C4 vs4.length e4)))) (by kernel_rfl) (HC.out _ ((HB6.out.mono fun x h=>.inl h).then (Below.refl _ _).drew)) (fun hHeld=>?_)
       generalize hw5:World.drew w6=w5 at hHeld ⊢
       have HB5:Hid (ButG (fun x=>x=b) wr w5):=Hd (by rw[←hw5];exact HB6.out.then (Below.refl _ _).drew)
       have HC5:Hid (w5.heap[b]?=some (.cells #[.int .i64 n1] 75 (0,0))):=Hd (by rw[←hw5];exact HC6.out)
       clear hw5
       have HE5:Hid (Exact n1 (m+cntT (.mk k4 s4 n4 ps4 fs4 vs4)) (.mk k4 s4 n4 ps4 fs4 vs4:Ty) (.mk k4 s4 n4 ps4 fs4 vs4)):=Hd (by
        rw[HN1.out,HYY.out]
        exact Exact.add ⟨fun _=>⟨rfl,rfl⟩,fun h=>h⟩)
       have HM5:Hid (n1≤8192+cntT (.mk k4 s4 n4 ps4 fs4 vs4)∧cntT (.mk k4 s4 n4 ps4 fs4 vs4)≤cntT (.mk k4 s4 n4 ps4 fs4 vs4)*4097):=Hd ⟨by have:=HYY.out;have:=HN1.out;have:=HM4.out;have:=cntT_pos (.mk k4 s4 n4 ps4 fs4 vs4);(go_light;omega),by (go_light;omega)⟩
       have HR5:Hid (RepT (fun x=>((K x∨K' x)∨wr.heap.size≤x)∧x<w5.heap.size) w5 (.mk k4 s4 n4 ps4 fs4 vs4) [.int .i64 k4,.string s4,.int .i64 n4,.slice A4 ps4.length c4,.slice B4 fs4.length d4,.slice C4 vs4.length e4]):=Hd (RepT.both _ _ (HRQ.out.but HB5.out fun x hx=>⟨((HHK.out w1 (ButG.refl _ _) x (.inl hx)).2),.inl (.inl hx)⟩))
       refine Plan.start [0,2,3,4,5] ?_
       iterate 5 (refine Plan.tk (so rfl) hHeld ?_;try simp only[Act.put,pz1,pz2,pz3])
       refine Plan.done ?_
       refine wpAnyH_ready (rs:=[1,6]) (by kernel_rfl) (by simp) ?_
       refine AllReadyH.cons (sd (some 93) rfl) (fun Kx hK=>?_) (AllReadyH.cons (sd (some 98) rfl) (fun Kx hK=>?_) AllReadyH.nil)
       have b3:World.cell? w5 ⟨g+1,3,none⟩=some (.slice A5 S.length c5):=by rw[Ch (HB5.out.up (by have:=HGB.out;show ¬ (g+1=b);(go_light;omega)) HST.out.out)];rfl
       go_simp
       clear b3
       refine hK.out _ _ (HC.out _ (HB5.out.mono fun x h=>.inl h)) (fun hHeld=>?_)
       clear hK Kx
       try simp only[Act.put,pz1,pz2,pz3]
       refine wpAnyH_ready (rs:=[6]) (by kernel_rfl) (by simp) ?_
       refine AllReadyH.cons (sd (some 98) rfl) (fun Kx hK=>?_) AllReadyH.nil
       go_simp
       generalize hW:World.alloc w5 (.cells #[.int .i64 k4,.string s4,.int .i64 n4,.slice A4 ps4.length c4,.slice B4 fs4.length d4,.slice C4 vs4.length e4] 26)=w8
       have hb8:Below w5.heap.size w5 w8:=by rw[←hW];exact (Below.refl _ _).alloc (Nat.le_refl _) _
       have hx8:w8.heap[w5.heap.size]?=some (.cells #[.int .i64 k4,.string s4,.int .i64 n4,.slice A4 ps4.length c4,.slice B4 fs4.length d4,.slice C4 vs4.length e4] 26 (0,0)):=by rw[←hW];exact heap_alloc_new w5 _
       have HB58:=Hd hb8
       have HB8:Hid (ButG (fun x=>x=b) wr w8):=Hd (HB5.out.then hb8)
       have HC8:=Hd (box_up hb8 (Array.getElem?_eq_some_iff.1 HC5.out).1 HC5.out)
       have HX8:=Hd hx8
       clear hW hb8 hx8
       refine hK.out _ _ (HC.out _ (HB8.out.mono fun x h=>.inl h)) (fun hHeld=>?_)
       clear hK Kx
       try simp only[Act.put,pz1,pz2,pz3]
       rotate_left
       go_simp
       generalize hW:World.alloc w5 (.cells #[.int .i64 k4,.string s4,.int .i64 n4,.slice A4 ps4.length c4,.slice B4 fs4.length d4,.slice C4 vs4.length e4] 26)=w8
       have hb8:Below w5.heap.size w5 w8:=by rw[←hW];exact (Below.refl _ _).alloc (Nat.le_refl _) _
       have hx8:w8.heap[w5.heap.size]?=some (.cells #[.int .i64 k4,.string s4,.int .i64 n4,.slice A4 ps4.length c4,.slice B4 fs4.length d4,.slice C4 vs4.length e4] 26 (0,0)):=by rw[←hW];exact heap_alloc_new w5 _
       have HB58:=Hd hb8
       have HB8:Hid (ButG (fun x=>x=b) wr w8):=Hd (HB5.out.then hb8)
       have HC8:=Hd (box_up hb8 (Array.getElem?_eq_some_iff.1 HC5.out).1 HC5.out)
       have HX8:=Hd hx8
       clear hW hb8 hx8
       refine hK.out _ _ (HC.out _ (HB8.out.mono fun x h=>.inl h)) (fun hHeld=>?_)
       clear hK Kx
       try simp only[Act.put,pz1,pz2,pz3]
       have b3:World.cell? w8 ⟨g+1,3,none⟩=some (.slice A5 S.length c5):=by rw[Ch (HB8.out.up (by have:=HGB.out;show ¬ (g+1=b);(go_light;omega)) HST.out.out)];rfl
       refine wpAnyH_ready (rs:=[1]) (by kernel_rfl) (by simp) ?_
       refine AllReadyH.cons (sd (some 93) rfl) (fun Kx hK=>?_) AllReadyH.nil
       go_simp
       clear b3
       refine hK.out _ _ (HC.out _ (HB8.out.mono fun x h=>.inl h)) (fun hHeld=>?_)
       clear hK Kx
       try simp only[Act.put,pz1,pz2,pz3]
       all_goals (
        refine wpAnyH_ready (rs:=[7]) (by kernel_rfl) (by simp) ?_
        refine AllReadyH.cons (sd (some 99) rfl) (fun Kx hK=>?_) AllReadyH.nil
        rw[if_pos (by rfl)]
        have hown:∀ x,(Value.slice A5 S.length c5).ownBlock=some x→g+2≤x∧x<wr.heap.size:=fun x hx=>HST.out.row.lt hx
        have HOW:=Hd (HST.out.row.but HB8.out (fun x h hp=>((HPP.out x).1 hp).2.1 h) (fun x hx h=>by have:=hown x hx;have:=HGB.out;(go_light;omega)))
        refine wp_append_wg (P:=P) (B:=g+2) (gg:=w5.heap.size) (t:=.mk k4 s4 n4 ps4 fs4 vs4) (cs:=[.int .i64 k4,.string s4,.int .i64 n4,.slice A4 ps4.length c4,.slice B4 fs4.length d4,.slice C4 vs4.length e4]) (l:=S) _ _ rfl (by rfl) (by rfl) HOW.out ?_ ?_ ?_ HLEN.out ?_
        ·refine (HR5.out.later HB58.out).weak fun x hx=>?_
         obtain⟨h1,h2⟩:=hx
         have h3:=HB58.out.size
         have h4:=HS1.out
         have h5:=HBT.out.size
         have h7:=HB5.out.size
         have h8:=HGB.out
         have h6:=HG.out
         refine⟨⟨by (go_light;omega),fun e=>?_⟩,(HPP.out x).2 ?_⟩
         ·have h9:=hown x e
          rcases h1 with h1 | h1
          ·have:=(HKK.out x h1).1;(go_light;omega)
          ·(go_light;omega)
         ·rcases h1 with h1 | h1
          ·have:=HKK.out x h1;exact⟨.inl h1,this.2,by (go_light;omega),by (go_light;omega)⟩
          ·have:=HSZ.out;exact⟨.inr (by (go_light;omega)),by (go_light;omega),by (go_light;omega),by (go_light;omega)⟩
        ·intro j u hj
         rw[Ch HX8.out]
         simpa using hj
        ·have h7:=HB8.out.size;have h9:=HSZ.out;(go_light;omega)
        intro v9 w9 ho9 hg9
        have hb9:ButG (fun x=>x=b∨g+2≤x) wr w9:=(HB8.out.mono fun x h=>.inl h).grown hg9 fun x hx=>.inl (.inr (hown x hx).1)
        have hc9:w9.heap[b]?=w8.heap[b]?:=hg9.block b (Array.getElem?_eq_some_iff.1 HC8.out).1 fun e=>by have:=hown b e.symm;have:=HGB.out;(go_light;omega)
        obtain⟨SN,hSN⟩:∃ SN,SN=S++[.mk k4 s4 n4 ps4 fs4 vs4]:=⟨_,rfl⟩
        rw[←hSN] at ho9
        obtain⟨A9,c9,hv9,-⟩:=ho9.slice
        subst hv9
        have HO9:=Hd ho9
        have HB9:=Hd hb9
        have HC9:=Hd (hc9.trans HC8.out)
        have HSN:=Hd hSN
        clear ho9 hb9 hc9 hg9 hown hSN
        refine hK.out _ _ (HC.out _ (HB9.out.mono fun x h=>h.imp id fun h=>by (go_light;omega))) (fun hHeld=>?_)
        clear hK Kx
        try simp only[Act.put,pz1,pz2,pz3]
        refine Plan.start [8] ?_
        refine Plan.tk (so rfl) hHeld ?_
        try simp only[Act.put,pz1,pz2,pz3]
        refine Plan.done ?_
        have hx9:=HB9.out.up (by have:=HGB.out;show ¬ (g+1=b∨g+2≤g+1);(go_light;omega)) HST.out.out
        have v3:=Ch hx9 3
        have v4:=Lib.frozen_of_heap hx9 3
        simp only[List.getElem?_toArray,List.getElem?_cons_zero,List.getElem?_cons_succ] at v3
        have HX9:=Hd hx9
        clear hx9
        refine wpAnyH_ready (rs:=[9]) (by kernel_rfl) (by simp) ?_
        refine AllReadyH.cons (sd none rfl) (fun Kx hK=>?_) AllReadyH.nil
        go_simp
        clear v3 v4
        refine hK.out _ _ (HC.out _ (ButG.set (O:=(fun x=>x=b∨g+1≤x)) (p:=⟨g+1,3,none⟩) (HB9.out.mono fun x h=>h.imp id fun h=>by (go_light;omega)) (.inl (.inr (Nat.le_refl _))) _)) (fun hHeld=>?_)
        clear hK Kx
        try simp only[Act.put,pz1,pz2,pz3]
        refine wpAnyH_done (by kernel_rfl) ?_ _
        clear hHeld
        go_wp2_with fail
        go_roundw
        case rel=>
         refine⟨i+1,n1,A9,c9,SN,HIn.out,by first | rfl | rw[wr2],?_,?_,?_,?_,?_,?_⟩
         ·have hne:b≠g+1:=by have:=HGB.out;(go_light;omega)
          refine⟨?_,?_,?_,?_⟩
          ·rw[Below.heap_setCell _ _ _ _ hne];exact HC9.out
          ·exact six_one HX9.out 3 _
          ·exact HO9.out.but ((ButG.refl (fun x=>x=g+1) _).put1 3 _) (fun x h hp=>((HPP.out x).1 hp).2.2.1 h) (fun x hx h=>by have:=(HO9.out.lt hx).1;(go_light;omega))
          ·exact ButG.set (O:=(fun x=>x=b∨x=g+1)) (p:=⟨g+1,3,none⟩) (HBT.out.trans HB9.out fun x h=>h.imp .inl fun h=>by have:=HS1.out;(go_light;omega)) (.inl (.inr rfl)) _
         ·have:=HB9.out.size
          have:=HSZ.out
          simp[World.setCell];(go_light;omega)
         ·rw[HSN.out,List.length_append,HLN5.out];rfl
         ·have h:=HEX.out.step (f:=fun S u=>S++[u]) HM4.out HE5.out
          rw[HNX.out.1,HNX.out.2,HSN.out]
          exact h
         ·have:=HM5.out.1;have:=HCU.out.1;(go_light;omega)
         ·rw[HSN.out,cntL_snoc,HCU.out.2,Nat.add_mul]
          exact Nat.add_le_add HCS.out HM5.out.2
        case measure=>first | exact HM.out | (rw[wr2];exact HM.out)))
     ·have hcd2:(k == 21)=false∨((k == 21)=true∧((i:Int) == 1)=false):=by
       by_cases h21:k=21
       ·exact .inr ⟨by simp[h21],by simp;intro h;exact hcd ⟨h21,by (go_light;omega)⟩⟩
       ·exact .inl (beq_eq_false_iff_ne.2 h21)
      rw[if_neg hcd,if_neg hcd] at hnx
      have HNX:=Hd hnx
      have KQ:=Hd (hih wr.drew es m (hrq.later (Below.refl _ _).drew) (HLD.out _ (HBT.out.then (Below.refl _ _).drew)) (HHK.out _ (HBT.out.then (Below.refl _ _).drew)) hst.cnt hm)
      obtain⟨k4,s4,n4,ps4,fs4,vs4⟩:=u0
      obtain⟨A4,c4,B4,d4,C4,e4,rfl,-⟩:=hrq.inv
      simp only[cells6T] at hes KQ
      clear hnx hih hi hst hex hlen hat hm hcd hKb hsz hlp hrq
      rcases hcd2 with f15 | ⟨f15,f16⟩
      ·exact absurd f15 (by simp[HK21.out])
      all_goals (
       have HC:Hid (∀ wx,ButG (fun x=>x=b∨g+1≤x) wr wx→wx.cell? ⟨w.heap.size,3,none⟩=some (.slice (some ⟨tb,tq,none⟩) ps.length c)∧(wx.cell? ⟨tb,tq+i*6,none⟩=some (.int .i64 k4)∧wx.cell? ⟨tb,tq+i*6+1,none⟩=some (.string s4)∧wx.cell? ⟨tb,tq+i*6+2,none⟩=some (.int .i64 n4)∧wx.cell? ⟨tb,tq+i*6+3,none⟩=some (.slice A4 ps4.length c4)∧wx.cell? ⟨tb,tq+i*6+4,none⟩=some (.slice B4 fs4.length d4)∧wx.cell? ⟨tb,tq+i*6+5,none⟩=some (.slice C4 vs4.length e4))):=Hd fun wx hx=>by
        have hbw:=HBT.out.trans hx fun x h=>h.imp .inl fun h=>by have:=HS1.out;(go_light;omega)
        obtain⟨_,_,_,h3,_,_⟩:=HX.out wx hbw
        have htb:=HTB.out
        exact⟨h3,hx.cell htb (hes 0 _ rfl),hx.cell htb (hes 1 _ rfl),hx.cell htb (hes 2 _ rfl),hx.cell htb (hes 3 _ rfl),hx.cell htb (hes 4 _ rfl),hx.cell htb (hes 5 _ rfl)⟩
       go_upto_region 18 with fail
       clear x0 x1 x2 x3 x4 x5 c0
       refine wp_region_held_drew (S:=(fun w'=>w'.cell? ⟨w.heap.size,3,none⟩=some (.slice (some ⟨tb,tq,none⟩) ps.length c)∧(w'.cell? ⟨tb,tq+i*6,none⟩=some (.int .i64 k4)∧w'.cell? ⟨tb,tq+i*6+1,none⟩=some (.string s4)∧w'.cell? ⟨tb,tq+i*6+2,none⟩=some (.int .i64 n4)∧w'.cell? ⟨tb,tq+i*6+3,none⟩=some (.slice A4 ps4.length c4)∧w'.cell? ⟨tb,tq+i*6+4,none⟩=some (.slice B4 fs4.length d4)∧w'.cell? ⟨tb,tq+i*6+5,none⟩=some (.slice C4 vs4.length e4)))) (by kernel_rfl) (HC.out _ (ButG.of_below (Below.refl _ _).drew)) (fun hHeld=>?_)
       refine Plan.start [0,2,3,4,5,6,7,8] ?_
       iterate 8 (refine Plan.tk (so rfl) hHeld ?_;try simp only[Act.put,pz1,pz2,pz3])
       refine Plan.done ?_
       refine wpAnyH_ready (rs:=[1,9]) (by kernel_rfl) (by simp) ?_
       refine AllReadyH.cons (sd (some 102) rfl) (fun Kx hK=>?_) (AllReadyH.cons (sd (some 110) rfl) (fun Kx hK=>?_) AllReadyH.nil)
       have b3:World.cell? wr.drew ⟨g+1,3,none⟩=some (.slice A5 S.length c5):=by rw[Ch (show wr.drew.heap[g+1]?=_ from HST.out.out)];rfl
       go_simp
       clear b3
       refine hK.out _ _ (HC.out _ (ButG.of_below (Below.refl _ _).drew)) (fun hHeld=>?_)
       clear hK Kx
       try simp only[Act.put,pz1,pz2,pz3]
       refine wpAnyH_ready (rs:=[9]) (by kernel_rfl) (by simp) ?_
       refine AllReadyH.cons (sd (some 110) rfl) (fun Kx hK=>?_) AllReadyH.nil
       go_simp
       refine KQ.out.mono ?_
       intro e w5 hpo
       obtain⟨rs,u,n1,rfl,hr5,hc5,hx5,hm5,hu5,hb5⟩:=hpo.get
       have HB5:Hid (ButG (fun x=>x=b) wr w5):=Hd (ButG.from (Below.refl wr.heap.size wr).drew hb5)
       have HR5:=Hd (RepT.both _ _ (hr5.weak (K':=fun x=>(K x∨K' x)∨wr.heap.size≤x) fun x h=>h))
       have HC5:=Hd hc5
       clear hpo hr5 hc5 hb5
       obtain⟨k6,s6,n6,ps6,fs6,vs6⟩:=u
       have HE5:=Hd hx5
       have HM5:=Hd (And.intro hm5 hu5)
       clear hx5 hm5 hu5
       obtain⟨A6,c6,B6,d6,C6,e6,rfl,-⟩:=HR5.out.inv
       simp only[cells6T] at HR5 ⊢
       go_wp2_with fail
       refine hK.out _ _ (HC.out _ (HB5.out.mono fun x h=>.inl h)) (fun hHeld=>?_)
       clear hK Kx
       try simp only[Act.put,pz1,pz2,pz3]
       refine wpAnyH_ready (rs:=[10]) (by kernel_rfl) (by simp) ?_
       refine AllReadyH.cons (sd (some 111) rfl) (fun Kx hK=>?_) AllReadyH.nil
       go_simp
       generalize hW:World.alloc w5 (.cells #[.int .i64 k6,.string s6,.int .i64 n6,.slice A6 ps6.length c6,.slice B6 fs6.length d6,.slice C6 vs6.length e6] 26)=w8
       have hb8:Below w5.heap.size w5 w8:=by rw[←hW];exact (Below.refl _ _).alloc (Nat.le_refl _) _
       have hx8:w8.heap[w5.heap.size]?=some (.cells #[.int .i64 k6,.string s6,.int .i64 n6,.slice A6 ps6.length c6,.slice B6 fs6.length d6,.slice C6 vs6.length e6] 26 (0,0)):=by rw[←hW];exact heap_alloc_new w5 _
       have HB58:=Hd hb8
       have HB8:Hid (ButG (fun x=>x=b) wr w8):=Hd (HB5.out.then hb8)
       have HC8:=Hd (box_up hb8 (Array.getElem?_eq_some_iff.1 HC5.out).1 HC5.out)
       have HX8:=Hd hx8
       clear hW hb8 hx8
       refine hK.out _ _ (HC.out _ (HB8.out.mono fun x h=>.inl h)) (fun hHeld=>?_)
       clear hK Kx
       try simp only[Act.put,pz1,pz2,pz3]
       rotate_left
       go_simp
       refine KQ.out.mono ?_
       intro e w5 hpo
       obtain⟨rs,u,n1,rfl,hr5,hc5,hx5,hm5,hu5,hb5⟩:=hpo.get
       have HB5:Hid (ButG (fun x=>x=b) wr w5):=Hd (ButG.from (Below.refl wr.heap.size wr).drew hb5)
       have HR5:=Hd (RepT.both _ _ (hr5.weak (K':=fun x=>(K x∨K' x)∨wr.heap.size≤x) fun x h=>h))
       have HC5:=Hd hc5
       clear hpo hr5 hc5 hb5
       obtain⟨k6,s6,n6,ps6,fs6,vs6⟩:=u
       have HE5:=Hd hx5
       have HM5:=Hd (And.intro hm5 hu5)
       clear hx5 hm5 hu5
       obtain⟨A6,c6,B6,d6,C6,e6,rfl,-⟩:=HR5.out.inv
       simp only[cells6T] at HR5 ⊢
       go_wp2_with fail
       refine hK.out _ _ (HC.out _ (HB5.out.mono fun x h=>.inl h)) (fun hHeld=>?_)
       clear hK Kx
       try simp only[Act.put,pz1,pz2,pz3]
       refine wpAnyH_ready (rs:=[1,10]) (by kernel_rfl) (by simp) ?_
       refine AllReadyH.cons (sd (some 102) rfl) (fun Kx hK=>?_) (AllReadyH.cons (sd (some 111) rfl) (fun Kx hK=>?_) AllReadyH.nil)
       have b3:World.cell? w5 ⟨g+1,3,none⟩=some (.slice A5 S.length c5):=by rw[Ch (HB5.out.up (by have:=HGB.out;show ¬ (g+1=b);(go_light;omega)) HST.out.out)];rfl
       go_simp
       clear b3
       refine hK.out _ _ (HC.out _ (HB5.out.mono fun x h=>.inl h)) (fun hHeld=>?_)
       clear hK Kx
       try simp only[Act.put,pz1,pz2,pz3]
       refine wpAnyH_ready (rs:=[10]) (by kernel_rfl) (by simp) ?_
       refine AllReadyH.cons (sd (some 111) rfl) (fun Kx hK=>?_) AllReadyH.nil
       go_simp
       generalize hW:World.alloc w5 (.cells #[.int .i64 k6,.string s6,.int .i64 n6,.slice A6 ps6.length c6,.slice B6 fs6.length d6,.slice C6 vs6.length e6] 26)=w8
       have hb8:Below w5.heap.size w5 w8:=by rw[←hW];exact (Below.refl _ _).alloc (Nat.le_refl _) _
       have hx8:w8.heap[w5.heap.size]?=some (.cells #[.int .i64 k6,.string s6,.int .i64 n6,.slice A6 ps6.length c6,.slice B6 fs6.length d6,.slice C6 vs6.length e6] 26 (0,0)):=by rw[←hW];exact heap_alloc_new w5 _
       have HB58:=Hd hb8
       have HB8:Hid (ButG (fun x=>x=b) wr w8):=Hd (HB5.out.then hb8)
       have HC8:=Hd (box_up hb8 (Array.getElem?_eq_some_iff.1 HC5.out).1 HC5.out)
       have HX8:=Hd hx8
       clear hW hb8 hx8
       refine hK.out _ _ (HC.out _ (HB8.out.mono fun x h=>.inl h)) (fun hHeld=>?_)
       clear hK Kx
       try simp only[Act.put,pz1,pz2,pz3]
       rotate_left
       go_simp
       generalize hW:World.alloc w5 (.cells #[.int .i64 k6,.string s6,.int .i64 n6,.slice A6 ps6.length c6,.slice B6 fs6.length d6,.slice C6 vs6.length e6] 26)=w8
       have hb8:Below w5.heap.size w5 w8:=by rw[←hW];exact (Below.refl _ _).alloc (Nat.le_refl _) _
       have hx8:w8.heap[w5.heap.size]?=some (.cells #[.int .i64 k6,.string s6,.int .i64 n6,.slice A6 ps6.length c6,.slice B6 fs6.length d6,.slice C6 vs6.length e6] 26 (0,0)):=by rw[←hW];exact heap_alloc_new w5 _
       have HB58:=Hd hb8
       have HB8:Hid (ButG (fun x=>x=b) wr w8):=Hd (HB5.out.then hb8)
       have HC8:=Hd (box_up hb8 (Array.getElem?_eq_some_iff.1 HC5.out).1 HC5.out)
       have HX8:=Hd hx8
       clear hW hb8 hx8
       refine hK.out _ _ (HC.out _ (HB8.out.mono fun x h=>.inl h)) (fun hHeld=>?_)
       clear hK Kx
       try simp only[Act.put,pz1,pz2,pz3]
       have b3:World.cell? w8 ⟨g+1,3,none⟩=some (.slice A5 S.length c5):=by rw[Ch (HB8.out.up (by have:=HGB.out;show ¬ (g+1=b);(go_light;omega)) HST.out.out)];rfl
       refine wpAnyH_ready (rs:=[1]) (by kernel_rfl) (by simp) ?_
       refine AllReadyH.cons (sd (some 102) rfl) (fun Kx hK=>?_) AllReadyH.nil
       go_simp
       clear b3
       refine hK.out _ _ (HC.out _ (HB8.out.mono fun x h=>.inl h)) (fun hHeld=>?_)
       clear hK Kx
       try simp only[Act.put,pz1,pz2,pz3]
       all_goals (
        refine wpAnyH_ready (rs:=[11]) (by kernel_rfl) (by simp) ?_
        refine AllReadyH.cons (sd (some 112) rfl) (fun Kx hK=>?_) AllReadyH.nil
        rw[if_pos (by rfl)]
        have hown:∀ x,(Value.slice A5 S.length c5).ownBlock=some x→g+2≤x∧x<wr.heap.size:=fun x hx=>HST.out.row.lt hx
        have HOW:=Hd (HST.out.row.but HB8.out (fun x h hp=>((HPP.out x).1 hp).2.1 h) (fun x hx h=>by have:=hown x hx;have:=HGB.out;(go_light;omega)))
        refine wp_append_wg (P:=P) (B:=g+2) (gg:=w5.heap.size) (t:=.mk k6 s6 n6 ps6 fs6 vs6) (cs:=[.int .i64 k6,.string s6,.int .i64 n6,.slice A6 ps6.length c6,.slice B6 fs6.length d6,.slice C6 vs6.length e6]) (l:=S) _ _ rfl (by rfl) (by rfl) HOW.out ?_ ?_ ?_ HLEN.out ?_
        ·refine (HR5.out.later HB58.out).weak fun x hx=>?_
         obtain⟨h1,h2⟩:=hx
         have h3:=HB58.out.size
         have h4:=HS1.out
         have h5:=HBT.out.size
         have h7:=HB5.out.size
         have h8:=HGB.out
         have h6:=HG.out
         refine⟨⟨by (go_light;omega),fun e=>?_⟩,(HPP.out x).2 ?_⟩
         ·have h9:=hown x e
          rcases h1 with h1 | h1
          ·have:=(HKK.out x h1).1;(go_light;omega)
          ·(go_light;omega)
         ·rcases h1 with h1 | h1
          ·have:=HKK.out x h1;exact⟨.inl h1,this.2,by (go_light;omega),by (go_light;omega)⟩
          ·have:=HSZ.out;exact⟨.inr (by (go_light;omega)),by (go_light;omega),by (go_light;omega),by (go_light;omega)⟩
        ·intro j u hj
         rw[Ch HX8.out]
         simpa using hj
        ·have h7:=HB8.out.size;have h9:=HSZ.out;(go_light;omega)
        intro v9 w9 ho9 hg9
        have hb9:ButG (fun x=>x=b∨g+2≤x) wr w9:=(HB8.out.mono fun x h=>.inl h).grown hg9 fun x hx=>.inl (.inr (hown x hx).1)
        have hc9:w9.heap[b]?=w8.heap[b]?:=hg9.block b (Array.getElem?_eq_some_iff.1 HC8.out).1 fun e=>by have:=hown b e.symm;have:=HGB.out;(go_light;omega)
        obtain⟨SN,hSN⟩:∃ SN,SN=S++[.mk k6 s6 n6 ps6 fs6 vs6]:=⟨_,rfl⟩
        rw[←hSN] at ho9
        obtain⟨A9,c9,hv9,-⟩:=ho9.slice
        subst hv9
        have HO9:=Hd ho9
        have HB9:=Hd hb9
        have HC9:=Hd (hc9.trans HC8.out)
        have HSN:=Hd hSN
        clear ho9 hb9 hc9 hg9 hown hSN
        refine hK.out _ _ (HC.out _ (HB9.out.mono fun x h=>h.imp id fun h=>by (go_light;omega))) (fun hHeld=>?_)
        clear hK Kx
        try simp only[Act.put,pz1,pz2,pz3]
        refine Plan.start [12] ?_
        refine Plan.tk (so rfl) hHeld ?_
        try simp only[Act.put,pz1,pz2,pz3]
        refine Plan.done ?_
        have hx9:=HB9.out.up (by have:=HGB.out;show ¬ (g+1=b∨g+2≤g+1);(go_light;omega)) HST.out.out
        have v3:=Ch hx9 3
        have v4:=Lib.frozen_of_heap hx9 3
        simp only[List.getElem?_toArray,List.getElem?_cons_zero,List.getElem?_cons_succ] at v3
        have HX9:=Hd hx9
        clear hx9
        refine wpAnyH_ready (rs:=[13]) (by kernel_rfl) (by simp) ?_
        refine AllReadyH.cons (sd none rfl) (fun Kx hK=>?_) AllReadyH.nil
        go_simp
        clear v3 v4
        refine hK.out _ _ (HC.out _ (ButG.set (O:=(fun x=>x=b∨g+1≤x)) (p:=⟨g+1,3,none⟩) (HB9.out.mono fun x h=>h.imp id fun h=>by (go_light;omega)) (.inl (.inr (Nat.le_refl _))) _)) (fun hHeld=>?_)
        clear hK Kx
        try simp only[Act.put,pz1,pz2,pz3]
        refine wpAnyH_done (by kernel_rfl) ?_ _
        clear hHeld
        go_wp2_with fail
        go_roundw
        case rel=>
         refine⟨i+1,n1,A9,c9,SN,HIn.out,by first | rfl | rw[wr2],?_,?_,?_,?_,?_,?_⟩
         ·have hne:b≠g+1:=by have:=HGB.out;(go_light;omega)
          refine⟨?_,?_,?_,?_⟩
          ·rw[Below.heap_setCell _ _ _ _ hne];exact HC9.out
          ·exact six_one HX9.out 3 _
          ·exact HO9.out.but ((ButG.refl (fun x=>x=g+1) _).put1 3 _) (fun x h hp=>((HPP.out x).1 hp).2.2.1 h) (fun x hx h=>by have:=(HO9.out.lt hx).1;(go_light;omega))
          ·exact ButG.set (O:=(fun x=>x=b∨x=g+1)) (p:=⟨g+1,3,none⟩) (HBT.out.trans HB9.out fun x h=>h.imp .inl fun h=>by have:=HS1.out;(go_light;omega)) (.inl (.inr rfl)) _
         ·have:=HB9.out.size
          have:=HSZ.out
          simp[World.setCell];(go_light;omega)
         ·rw[HSN.out,List.length_append,HLN5.out];rfl
         ·have h:=HEX.out.step (f:=fun S u=>S++[u]) HM4.out HE5.out
          rw[HNX.out.1,HNX.out.2,HSN.out]
          exact h
         ·have:=HM5.out.1;have:=HCU.out.1;(go_light;omega)
         ·rw[HSN.out,cntL_snoc,HCU.out.2,Nat.add_mul]
          exact Nat.add_le_add HCS.out HM5.out.2
        case measure=>first | exact HM.out | (rw[wr2];exact HM.out)))
    ·have hE:Exact m (MF ps.length) S (LF ps.length)∧cntL S≤cntL ps*4097∧S.length≤4096:=by
      have h1:=cntL_takeJ ps i
      have h2:cntL (ps.take i)*4097≤cntL ps*4097:=Nat.mul_le_mul_right _ h1
      have hcs:=HCS.out
      have hlp2:=HCT.out.2.1
      refine⟨?_,by (go_light;omega),by (go_light;omega)⟩
      by_cases hin:i<ps.length
      ·exact hex.past (by (go_light;omega)) (HLF.out.2.2.2.2.2 i)
      ·have:i=ps.length:=by (go_light;omega)
       rw[←this];exact hex
     have HE:=Hd hE
     by_cases hin:i<ps.length
     ·have t1:decide ((i:Int)<(ps.length:Int))=true:=by simp;(go_light;omega)
      have t2:decide ((m:Int)≤(4096:Int))=false:=decide_eq_false (by (go_light;omega))
      have t2':¬ (m:Int)≤(4096:Int):=by (go_light;omega)
      have t3:¬ m≤4096:=by (go_light;omega)
      clear hi hst hex hlen hgo hlp hsz hE
      go_wp2_with fail
      go_meet
      exact⟨m,A5,c5,S,HST.out,HSZ.out,HE.out.1,HMB.out,HE.out.2.1,HE.out.2.2⟩
     ·have t1:decide ((i:Int)<(ps.length:Int))=false:=by simp;(go_light;omega)
      clear hi hst hex hlen hgo hlp hsz hE
      go_wp2_with fail
      go_meet
      exact⟨m,A5,c5,S,HST.out,HSZ.out,HE.out.1,HMB.out,HE.out.2.1,HE.out.2.2⟩
  case rest=>
   obtain⟨wv,hwv⟩:∃ x:World,x=wc:=⟨_,rfl⟩
   subst hwv
   obtain⟨m0,A5,c5,S,hst,hsz,hex,hmb,hcs,hsl⟩:=hcut
   have HCS:=Hd hcs
   have HBC:=Hd hst.but
   have HSZ:=Hd hsz
   have HSL:=Hd hsl
   have HL5:Hid (ListT (fun x=>P x∧x<wv.heap.size) wv S A5 c5):=Hd (by
    obtain⟨A',c',hv,hl⟩:=hst.row.listW (fun x hx=>(HPP.out x).2 ⟨.inr (by have:=HG.out;omega),by have:=HGB.out;omega,by omega,by omega⟩) (by omega)
    injection hv with hv1 hv2 hv3
    subst hv1
    subst hv3
    exact hl)
   have HST2:Hid (St2 P b g k s n (.slice C vs.length e) wv wv m0 A5 c5 S none 0 []):=Hd ⟨hst.cnt,hst.out,OwnE.nil,ButG.refl _ _⟩
   have HEX2:=Hd hex
   have HMB2:=Hd hmb
   clear hst hsz hex hmb hcs hsl
   go_upto_block 4 with fail
   go_cut [] from 14 (fun wx=>∃ (m:Nat) (Af:Option Addr) (cf:Nat) (Sf:FsT),St2 P b g k s n (.slice C vs.length e) wv wx m A5 c5 S Af cf Sf∧wv.heap.size≤wx.heap.size∧Exact m (MG fs.length) (S,Sf) (LF ps.length,LG fs.length)∧m≤8192+(cntL ps+cntF fs)∧Hid (cntF Sf≤cntF fs*4097)∧Sf.length≤4096)
   case first=>
    go_wp2_with fail
    go_loopw [10] (fun v wr=>∃ (i m:Nat) (Af:Option Addr) (cf:Nat) (Sf:FsT),i≤fs.length∧v=.int .i64 i∧St2 P b g k s n (.slice C vs.length e) wv wr m A5 c5 S Af cf Sf∧Sf.length=i∧wv.heap.size≤wr.heap.size∧Exact m (MG i) (S,Sf) (LF ps.length,LG i)∧m≤8192+(cntL ps+cntF fs)∧Hid (cntF Sf≤cntF (fs.take i)*4097)) (fun v _=>fs.length - (intOf v).toNat)
    case atStart=>exact⟨0,m0,none,0,[],by (go_light;omega),rfl,HST2.out,rfl,Nat.le_refl _,by
     rw[HLG.out.1,HLG.out.2.1]
     exact⟨fun h=>⟨(HEX2.out.1 h).1,by rw[(HEX2.out.1 h).2]⟩,HEX2.out.2⟩,by have:=HMB2.out;(go_light;omega),Hd (by simp[cntF])⟩
    case round=>
     obtain⟨i,m,Af,cf,Sf,hi,rfl,hst,hlen,hsz,hex,hmb,hcf⟩:=hrel
     have HST:=Hd hst
     have HSZW:=Hd hsz
     have HBT:Hid (ButG (fun x=>x=b∨x=g+1) w1 wr):=Hd (HBC.out.trans hst.but fun x h=>.inl h)
     have HEX:=Hd hex
     have HLN6:=Hd hlen
     have HMB:=Hd hmb
     clear hmb
     obtain⟨x0,x1,x2,x3,x4,x5⟩:=HX.out _ HBT.out
     have c0:=Ch hst.cnt 0
     simp only[List.getElem?_toArray,List.getElem?_cons_zero] at c0
     have hlf:=HCT.out.2.2
     by_cases hgo:i<fs.length∧m≤4096
     ·exact absurd hgo.1 (by have:=HZ2.out;(go_light;omega))
     ·have hE:Exact m (MG fs.length) (S,Sf) (LF ps.length,LG fs.length):=by
       by_cases hin:i<fs.length
       ·exact hex.past (by (go_light;omega)) (HLG.out.2.2.2.2.2 i)
       ·have:i=fs.length:=by (go_light;omega)
        rw[←this];exact hex
      have hF:Hid (cntF Sf≤cntF fs*4097):=Hd (Nat.le_trans hcf.out (Nat.mul_le_mul_right _ (cntF_takeJ fs i)))
      have hS4:Sf.length≤4096:=by (go_light;omega)
      have HE:=Hd hE
      have HS4:=Hd hS4
      by_cases hin:i<fs.length
      ·have t1:decide ((i:Int)<(fs.length:Int))=true:=by simp;(go_light;omega)
       have t2:decide ((m:Int)≤(4096:Int))=false:=decide_eq_false (by (go_light;omega))
       have t2':¬ (m:Int)≤(4096:Int):=by (go_light;omega)
       have t3:¬ m≤4096:=by (go_light;omega)
       clear hi hst hex hlen hgo hlf hsz hE hS4
       go_wp2_with fail
       go_meet
       exact⟨m,Af,cf,Sf,HST.out,HSZW.out,HE.out,HMB.out,hF,HS4.out⟩
      ·have t1:decide ((i:Int)<(fs.length:Int))=false:=by simp;(go_light;omega)
       clear hi hst hex hlen hgo hlf hsz hE hS4
       go_wp2_with fail
       go_meet
       exact⟨m,Af,cf,Sf,HST.out,HSZW.out,HE.out,HMB.out,hF,HS4.out⟩
   case rest=>
    obtain⟨wu,hwu⟩:∃ x:World,x=wc:=⟨_,rfl⟩
    subst hwu
    obtain⟨m1,Af,cf,Sf,hst,hsz,hex,hmb,hcf,hsf⟩:=hcut
    have HCF:=Hd hcf
    have HST3:=Hd hst
    have HSZ3:=Hd hsz
    have HBU:Hid (ButG (fun x=>x=b∨x=g+1) w1 wu):=Hd (HBC.out.trans hst.but fun x h=>.inl h)
    have HEX3:=Hd hex
    have HMB3:=Hd hmb
    have HLF3:Hid (ListF (fun x=>P x∧x<wu.heap.size) wu Sf Af cf):=Hd (by
     obtain⟨A',c',hv,hl⟩:=hst.fld.listFl (fun x hx=>(HPP.out x).2 ⟨.inr (by have:=HG.out;have:=HSZ.out;omega),by have:=HGB.out;have:=HSZ.out;omega,by have:=HSZ.out;omega,by have:=HSZ.out;omega⟩) (by omega)
     injection hv with hv1 hv2 hv3
     subst hv1
     subst hv3
     exact hl)
    clear hst hsz hex hmb hcf hsf
    have HUP:Hid (∀ wx,ButG (fun x=>x=b) wu wx→ButG (fun x=>x=b∨x=g+1) w1 wx):=Hd fun wx hx=>HBU.out.trans hx fun x h=>.inl (.inl h)
    go_wp2_with fail
    go_loopw [12] (fun v wr=>∃ (i m:Nat) (wo:World),i≤vs.length∧v=.int .i64 i∧wo=wr∧wr.heap[b]?=some (.cells #[.int .i64 m] 75 (0,0))∧ButG (fun x=>x=b) wu wr∧Exact m (MG fs.length+cntV (vs.take i)) (S,Sf) (LF ps.length,LG fs.length)∧m≤8192+(cntL ps+cntF fs)+cntV (vs.take i)) (fun v _=>vs.length - (intOf v).toNat)
    case atStart=>exact⟨0,m1,wu,by (go_light;omega),rfl,rfl,HST3.out.cnt,ButG.refl _ _,by have e:cntV (vs.take 0)=0:=rfl;rw[e];exact HEX3.out,by have:=HMB3.out;(go_light;omega)⟩
    case round=>
     obtain⟨i,m,wo,hi,rfl,hwo,hcn,hbw,hex,hmb⟩:=hrel
     subst hwo
     have HCN0:=Hd hcn
     have HBW0:=Hd hbw
     have HEX0:=Hd hex
     have HMB0:=Hd hmb
     have hlv:vs.length≤1000000000000000:=by
      obtain⟨_,_,hr,_⟩:=HVS.out _ (HUP.out _ hbw)
      exact hr.big
     obtain⟨-,-,-,-,-,x5⟩:=HX.out _ (HUP.out _ hbw)
     by_cases hin:i<vs.length
     ·exact absurd hin (by have:=HZ3.out;(go_light;omega))
     ·have t1:decide ((i:Int)<(vs.length:Int))=false:=by simp;(go_light;omega)
      obtain rfl:i=vs.length:=by (go_light;omega)
      rw[List.take_length] at hex hmb
      have HEXF:=Hd hex
      have HMBF:=Hd hmb
      have ho:=hbw.up (by have:=HGB.out;show ¬ (g+1=b);(go_light;omega)) HST3.out.out
      obtain⟨b0,b1,b2,b3,b4,b5⟩:=cz6 ho
      obtain⟨x0,-,-,-,-,-⟩:=HX.out _ (HUP.out _ hbw)
      have HLSW:Hid (ListT (fun x=>P x∧x<wv.heap.size) wo S A5 c5):=Hd (HL5.out.but ((HST3.out.but.trans hbw fun x h=>.inl (.inl h)):ButG (fun x=>x=b∨x=g+1) wv wo) fun x hx=>⟨fun h=>by have h1:=(HPP.out x).1 hx.1;rcases h with h | h;exact h1.2.1 h;exact h1.2.2.1 h,hx⟩)
      have HNT:Hid (MG fs.length+cntV vs=n0+NT):=Hd (by rw[HLG.out.2.2.2.2.1,HND2.out.1];(go_light;omega))
      have hsum:m≤8192+(1+(cntL ps+(cntF fs+cntV vs))):=by (go_light;omega)
      have HSUM:=Hd hsum
      have HGW:Hid (g+2≤wo.heap.size):=Hd (by have h1:=HSZ.out;have h2:=HSZ3.out;have h3:=hbw.size;(go_light;omega))
      clear hsum
      by_cases h15:k=15
      ·exact absurd h15 (by have:=HK21.out;(go_light;omega))
      ·have f1:(k == 15)=false:=beq_eq_false_iff_ne.2 h15
       have HUT:Hid ((S,Sf)=(LF ps.length,LG fs.length)→Ty.mk k s n S Sf vs=UT):=Hd fun he=>by
        have e1:S=fillPs F k 0 ps:=(congrArg Prod.fst he).trans HLF.out.2.2.2.1
        have e2:Sf=fillFs F fs:=(congrArg Prod.snd he).trans HLG.out.2.2.2.1
        rw[HND2.out.2,if_neg h15,e1,e2]
       have rb:=HY.out _ (HUP.out _ hbw)
       clear hi hcn hbw hex hmb hlv ho h15
       obtain⟨q0,q1,q2,q3,q4,q5,z0,z1,z2,z3,z4,z5⟩:=qz6 rb
       have RBX:=Hd rb
       clear rb
       go_upto_region 34 with fail
       iterate 11 (first | go_values | go_skip | go_guarded | go_step | go_upon | go_back)
       obtain⟨r0,r1,r2,r3,r4,r5⟩:=cz6 (six_set RBX.out (.int .i64 k) (.string s) (.int .i64 n) (.slice A5 S.length c5) (.slice Af Sf.length cf) (.slice C vs.length e))
       clear q0 q1 q2 q3 q4 q5 z0 z1 z2 z3 z4 z5
       refine bodyPost_ret (v:=.agg #[.int .i64 k,.string s,.int .i64 n,.slice A5 S.length c5,.slice Af Sf.length cf,.slice C vs.length e]) (by simp[results,Tryz.results37,go_sem,r0,r1,r2,r3,r4,r5]) rfl ?_
       clear r0 r1 r2 r3 r4 r5
       have HSB:=six_butG wo g (.int .i64 k) (.string s) (.int .i64 n) (.slice A5 S.length c5) (.slice Af Sf.length cf) (.slice C vs.length e)
       refine HFIN.out _ _ ?_
       refine⟨[.int .i64 k,.string s,.int .i64 n,.slice A5 S.length c5,.slice Af Sf.length cf,.slice C vs.length e],.mk k s n S Sf vs,m,rfl,?_,?_,?_,?_,HSUM.out,?_,ButG.fin HB1.out (HUP.out _ HBW0.out) HG.out HSB⟩
       ·have hbt:ButG (fun x=>x=b∨x=g+1∨x=g) wu _:=(HBW0.out.mono fun x h=>.inl h).trans HSB fun x h=>.inl (.inr (.inr h))
        have hbs:ButG (fun x=>x=b∨x=g+1∨x=g) wo _:=HSB.mono fun x h=>.inr (.inr h)
        have hbz:ButG (fun x=>x=b∨x=g+1∨x=g) w1 _:=((HUP.out _ HBW0.out).mono fun x h=>h.imp id .inl).trans HSB fun x h=>.inl (.inr (.inr h))
        have hpx:∀ x,P x→¬ (x=b∨x=g+1∨x=g)∧((K x∨K' x)∨w.heap.size≤x):=fun x hx=>by
         obtain⟨h1,h2,h3,h4⟩:=(HPP.out x).1 hx
         exact⟨fun h=>by rcases h with h | h | h;exact h2 h;exact h3 h;exact h4 h,h1⟩
        exact RepT.of HTS.out (HLSW.out.but hbs fun x hx=>hpx x hx.1) (HLF3.out.but hbt fun x hx=>hpx x hx.1) ((HVS.out _ (HUP.out _ HBW0.out)).but hbs fun x hx=>⟨fun h=>by have h1:=HK1.out x hx;have h2:=HG.out;rcases h with h | h | h <;> (go_light;omega),.inl (.inl hx)⟩)
       ·exact HSB.up (by have:=HGB.out;show ¬ b=g;(go_light;omega)) HCN0.out
       ·intro h;have h1:=HEXF.out.1 (by rw[HNT.out];exact h);exact⟨by rw[←HNT.out];exact h1.1,HUT.out h1.2⟩
       ·intro h;exact HEXF.out.2 (by rw[HNT.out];exact h)
       ·rw[cntT_mk];exact cnt_end2 HCS.out HCF.out.out
end Go.Proofs.YtlpfpehegddcfaaGreatDoor
