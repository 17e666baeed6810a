import Derived.Test.YtlpfpehegddcfaaGreatDoorMn33
namespace Go.Proofs.YtlpfpehegddcfaaGreatDoor
set_option maxRecDepth 100000
set_option maxHeartbeats 64000000
open Go.RowKit
def ErrPost (w:World) (z:Int):Ending→World→Prop:=fun e w'=>e=.returned (.tuple #[.agg #[.int .i64 0,.string ⟨#[]⟩,.int .i64 0,.slice none 0 0,.slice none 0 0,.slice none 0 0],.int .i64 z])∧Below w.heap.size w w'
def RightPost (K:Nat→Prop) (w:World) (t:Ty):Ending→World→Prop:=fun e w'=>∃ rs,e=.returned (.tuple #[.agg rs.toArray,.int .i64 0])∧RepT (fun b=>K b∨w.heap.size≤b) w' t rs∧Below w.heap.size w w'
theorem rfill_bad {K:Nat→Prop} {w:World} {p:Ty} {cs:List Value} {v:Value} (hr:RepT K w p cs) (hft:formedT p=false) :
  Calls Tryz.prog 11 #[.agg cs.toArray,v] w (ErrPost w 4):=by
 have KF0:=fun wx (hx:Below w.heap.size w wx)=>formed_ref (hr.later hx)
 rw[hft] at KF0
 unfold ErrPost
 obtain⟨k,s,n,ps,fs,vs⟩:=p
 refine one_res hr fun A c B d C e w1 g h hcs=>?_
 subst hcs
 obtain⟨HX,HY,HB1,HS1,HG,HW1,-⟩:=h
 have KF:=Hd (KF0 w1 HB1.out)
 clear hr hft KF0
 go_enter Tryz.func11,Tryz.ntmps11
 go_upto_region 1 with fail
 rw[←HW1.out,←HG.out]
 obtain⟨x0,x1,x2,x3,x4,x5⟩:=HX.out _ (Below.refl _ _)
 go_wp2_with fail
 refine KF.out.mono ?_
 rintro e w2 ⟨rfl,hb2⟩
 have HB12:=Hd hb2
 clear hb2 KF x0 x1 x2 x3 x4 x5
 have rb:=box_up HB12.out (by have:=HS1.out;omega) HY.out
 obtain⟨q0,q1,q2,q3,q4,q5,z0,z1,z2,z3,z4,z5⟩:=qz6 rb
 have RBX:=Hd rb
 clear rb
 go_wp2_with fail
 obtain⟨r0,r1,r2,r3,r4,r5⟩:=cz6 (six_set RBX.out (.int .i64 0) (.string ⟨#[]⟩) (.int .i64 0) (.slice none 0 0) (.slice none 0 0) (.slice none 0 0))
 clear q0 q1 q2 q3 q4 q5 z0 z1 z2 z3 z4 z5 RBX
 refine bodyPost_ret (v:=.tuple #[.agg #[.int .i64 0,.string ⟨#[]⟩,.int .i64 0,.slice none 0 0,.slice none 0 0,.slice none 0 0],.int .i64 4]) (by simp[results,Tryz.results11,go_sem,r0,r1,r2,r3,r4,r5]) rfl ?_
 clear r0 r1 r2 r3 r4 r5
 exact⟨rfl,set_six_below (HB1.out.trans (HB12.out.mono HB1.out.size)) (by have:=HG.out;omega) _ _ _ _ _ _⟩
theorem rfill_any {K K':Nat→Prop} {w:World} {p:Ty} {cs:List Value} {L:List (ByteArray×Ty)} {AL:Option Addr} {cL:Nat} {F:ByteArray→Option Ty} (hr:RepT K w p cs) (hL:ListD K' w L AL cL) (hlo:∀ x,K x∨K' x→x<w.heap.size) (hft:formedT p=true)
  (kf:L.all (fun f=>formedT f.2)=true→∀ (wx:World) (b:Nat),Below w.heap.size w wx→w.heap.size≤b→wx.heap[b]?=some (.cells #[.int .i64 0] 75 (0,0))→Calls Tryz.prog 37 #[.pointer (some ⟨b,0,none⟩),.agg cs.toArray,.slice AL L.length cL] wx (FillA (fun x=>(K x∨K' x)∨wx.heap.size≤x) b 75 wx F p 0)) :
  Calls Tryz.prog 11 #[.agg cs.toArray,.slice AL L.length cL] w (if L.all (fun f=>formedT f.2)=true then (if fillN F p≤4096 then RightPost (fun x=>K x∨K' x) w (fillT F p) else ErrPost w 10) else ErrPost w 4):=by
 have KF0:=fun wx (hx:Below w.heap.size w wx)=>formed_ref (hr.later hx)
 rw[hft] at KF0
 have KFN:=Hd kf
 have HLO:=Hd hlo
 have HLS:=Hd hL.short
 have HNP:Hid (cntT p≤4096):=Hd (by
  unfold formedT at hft
  simp only[Bool.and_eq_true,decide_eq_true_eq] at hft
  exact hft.1)
 generalize hNN:fillN F p=NN
 generalize hTT:fillT F p=TT
 have HNN:=Hd hNN
 have HTT:=Hd hTT
 have HKK:Hid (∀ (e:Ending) (w':World) (wx:World) (b:Nat),FillA (fun x=>(K x∨K' x)∨wx.heap.size≤x) b 75 wx F p 0 e w'→∃ (rs:List Value) (u:Ty) (n1:Nat),e=.returned (.agg rs.toArray)∧RepT (fun x=>(K x∨K' x)∨wx.heap.size≤x) w' u rs∧w'.heap[b]?=some (.cells #[.int .i64 n1] 75 (0,0))∧(NN≤4096→n1≤4096∧u=TT)∧(4096<NN→4096<n1)∧n1≤20000∧ButG (fun x=>x=b) wx w'):=Hd fun e w' wx b h=>by
  obtain⟨rs,u,n1,h1,h2,h3,h4,h5,h6,h7,h8⟩:=h
  rw[HNN.out,HTT.out,Nat.zero_add] at h4
  rw[HNN.out,Nat.zero_add] at h5
  exact⟨rs,u,n1,h1,h2,h3,fun h=>by have:=h4 h;exact⟨by omega,this.2⟩,h5,by have:=HNP.out;omega,h8⟩
 have KFN2:Hid (L.all (fun f=>formedT f.2)=true→∀ (wx:World) (b:Nat),Below w.heap.size w wx→w.heap.size≤b→wx.heap[b]?=some (.cells #[.int .i64 0] 75 (0,0))→Calls Tryz.prog 37 #[.pointer (some ⟨b,0,none⟩),.agg cs.toArray,.slice AL L.length cL] wx fun e w'=>∃ (rs:List Value) (u:Ty) (n1:Nat),e=.returned (.agg rs.toArray)∧RepT (fun x=>(K x∨K' x)∨wx.heap.size≤x) w' u rs∧w'.heap[b]?=some (.cells #[.int .i64 n1] 75 (0,0))∧(NN≤4096→n1≤4096∧u=TT)∧(4096<NN→4096<n1)∧n1≤20000∧ButG (fun x=>x=b) wx w'):=Hd fun ha wx b h1 h2 h3=>(KFN.out ha wx b h1 h2 h3).mono fun e w' h=>HKK.out e w' wx b h
 clear KFN HKK HNN HTT HNP kf hNN hTT
 generalize hAL:L.all (fun f=>formedT f.2)=al at KFN2 ⊢
 have HAL:=Hd hAL
 clear hAL
 generalize hPO:(if al=true then (if NN≤4096 then RightPost (fun x=>K x∨K' x) w TT else ErrPost w 10) else ErrPost w 4)=PO
 have HPO:Hid ((al=false→∀ e w',ErrPost w 4 e w'→PO e w')∧(al=true→NN≤4096→∀ e w',RightPost (fun x=>K x∨K' x) w TT e w'→PO e w')∧(al=true→¬ NN≤4096→∀ e w',ErrPost w 10 e w'→PO e w')):=Hd ⟨fun h e w' hp=>by
  rw[←hPO,if_neg (by simp[h])]
  exact hp,fun h h2 e w' hp=>by
  rw[←hPO,if_pos h,if_pos h2]
  exact hp,fun h h2 e w' hp=>by
  rw[←hPO,if_pos h,if_neg h2]
  exact hp⟩
 clear hPO
 obtain⟨k,s,n,ps,fs,vs⟩:=p
 refine one_res hr fun A c B d C e w1 g h hcs=>?_
 subst hcs
 obtain⟨HX,HY,HB1,HS1,HG,HW1,-⟩:=h
 have KF:=Hd (KF0 w1 HB1.out)
 have HL:=Hd (hL.later HB1.out)
 clear hr hL hlo hft KF0
 go_enter Tryz.func11,Tryz.ntmps11
 go_upto_region 1 with fail
 rw[←HW1.out,←HG.out]
 obtain⟨x0,x1,x2,x3,x4,x5⟩:=HX.out _ (Below.refl _ _)
 go_wp2_with fail
 refine KF.out.mono ?_
 rintro e w2 ⟨rfl,hb2⟩
 have HB12:=Hd hb2
 clear hb2 KF x0 x1 x2 x3 x4 x5
 go_wp2_with fail
 go_loopw [6] (fun v wr=>∃ i:Nat,i≤L.length∧v=.int .i64 i∧(∀ f∈L.take i,formedT f.2=true)∧Below w1.heap.size w1 wr) (fun v _=>L.length - (intOf v).toNat)
 case atStart=>exact⟨0,by omega,rfl,fun f h=>absurd h (by simp),HB12.out⟩
 case round=>
  obtain⟨i,hi,rfl,hno,hb⟩:=hrel
  have HNO:=Hd hno
  have HBR:=Hd hb
  have hll:=HLS.out
  by_cases hin:i<L.length
  ·have t1:decide ((i:Int)<(L.length:Int))=true:=by simp;omega
   have wr2:wrap64 ((i:Int)+1)=((i+1:Nat):Int):=wrap_one (by omega)
   have HM:=Hd (measI hin)
   obtain⟨tb,tq,hA,-,hat⟩:=HL.out.at (by omega)
   subst hA
   obtain⟨-,-,es,hes,hrq⟩:=hat i hin
   have HNX:Hid (formedT (L[i]'hin).2=true→∀ f∈L.take (i+1),formedT f.2=true):=Hd fun e f hf=>by
    rw[List.take_succ_eq_append_getElem hin,List.mem_append,List.mem_singleton] at hf
    rcases hf with hf | rfl
    ·exact HNO.out f hf
    ·exact e
   have HYS:Hid (formedT (L[i]'hin).2=false→al=false):=Hd fun e=>by
    rw[←HAL.out,List.all_eq_false]
    exact⟨_,List.getElem_mem hin,by simp[e]⟩
   have KG:=Hd (formed_ref (hrq.later hb))
   have HIn:Hid (i+1≤L.length):=Hd hin
   generalize (L[i]'hin).2=u at hrq HNX HYS KG
   obtain⟨k4,s4,n4,ps4,fs4,vs4⟩:=u
   obtain⟨A4,c4,B4,d4,C4,e4,rfl,-⟩:=hrq.inv
   simp only[cells6T] at hes KG
   have hz:(wr.cell? ⟨tb,tq+i*7+1,none⟩=some (.int .i64 k4)∧wr.cell? ⟨tb,tq+i*7+1+1,none⟩=some (.string s4)∧wr.cell? ⟨tb,tq+i*7+1+2,none⟩=some (.int .i64 n4)∧wr.cell? ⟨tb,tq+i*7+1+3,none⟩=some (.slice A4 ps4.length c4)∧wr.cell? ⟨tb,tq+i*7+1+4,none⟩=some (.slice B4 fs4.length d4)∧wr.cell? ⟨tb,tq+i*7+1+5,none⟩=some (.slice C4 vs4.length e4)):=⟨cell_stays hb (hes 0 _ rfl),cell_stays hb (hes 1 _ rfl),cell_stays hb (hes 2 _ rfl),cell_stays hb (hes 3 _ rfl),cell_stays hb (hes 4 _ rfl),cell_stays hb (hes 5 _ rfl)⟩
   obtain⟨z0,z1,z2,z3,z4,z5⟩:=hz
   generalize formedT (.mk k4 s4 n4 ps4 fs4 vs4)=fo at HNX HYS KG
   have i1:(0:Int)≤(i:Int):=by omega
   have i2:(i:Int)<(L.length:Int):=by omega
   clear hi hat hes hrq hll hb hno
   go_wp2_with fail
   refine KG.out.mono ?_
   rintro e w5 ⟨rfl,hb5⟩
   have HB5:=Hd (HBR.out.trans (hb5.mono HBR.out.size))
   clear hb5 KG z0 z1 z2 z3 z4 z5
   rcases Bool.eq_false_or_eq_true fo with hfo | hfo
   ·subst hfo
    go_wp2_with fail
    refine⟨⟨i+1,HIn.out,by first | rfl | rw[wr2],HNX.out (by first | rfl | trivial),HB5.out⟩,?_⟩
    first | exact HM.out | (rw[wr2];exact HM.out)
   ·subst hfo
    have hal:=HYS.out (by first | rfl | trivial)
    have HALF:=Hd hal
    clear hal
    have rb:=box_up HB5.out (by have:=HS1.out;omega) HY.out
    have HBE:=Hd (HB1.out.trans (HB5.out.mono HB1.out.size))
    obtain⟨q0,q1,q2,q3,q4,q5,z0,z1,z2,z3,z4,z5⟩:=qz6 rb
    have RBX:=Hd rb
    clear rb
    go_wp2_with fail
    obtain⟨r0,r1,r2,r3,r4,r5⟩:=cz6 (six_set RBX.out (.int .i64 0) (.string ⟨#[]⟩) (.int .i64 0) (.slice none 0 0) (.slice none 0 0) (.slice none 0 0))
    clear q0 q1 q2 q3 q4 q5 z0 z1 z2 z3 z4 z5 RBX
    refine bodyPost_ret (v:=.tuple #[.agg #[.int .i64 0,.string ⟨#[]⟩,.int .i64 0,.slice none 0 0,.slice none 0 0,.slice none 0 0],.int .i64 4]) (by simp[results,Tryz.results11,go_sem,r0,r1,r2,r3,r4,r5]) rfl ?_
    clear r0 r1 r2 r3 r4 r5
    refine HPO.out.1 HALF.out _ _ ?_
    exact⟨rfl,set_six_below HBE.out (by have:=HG.out;omega) _ _ _ _ _ _⟩
  ·have t1:decide ((i:Int)<(L.length:Int))=false:=by simp;omega
   have hal:al=true:=by
    rw[←HAL.out,List.all_eq_true]
    intro f hf
    exact hno f (by rw[List.take_of_length_le (by omega)];exact hf)
   obtain⟨bw,hbw⟩:∃ x,x=wr.heap.size:=⟨_,rfl⟩
   obtain⟨w3,hw3⟩:∃ x,x=wr.alloc (.cells #[.int .i64 0] 75):=⟨_,rfl⟩
   have hb3:Below wr.heap.size wr w3:=by rw[hw3];exact (Below.refl _ _).alloc (Nat.le_refl _) _
   have hx3:w3.heap[bw]?=some (.cells #[.int .i64 0] 75 (0,0)):=by rw[hw3,hbw];exact heap_alloc_new wr _
   have HB3:=Hd (HBR.out.trans (hb3.mono HBR.out.size))
   have HBW:Hid (bw=wr.heap.size∧g<bw∧w1.heap.size≤bw∧bw<w3.heap.size):=Hd ⟨hbw,by have h1:=HS1.out;have h2:=HBR.out.size;omega,by have h2:=HBR.out.size;omega,(Array.getElem?_eq_some_iff.1 hx3).1⟩
   have HW3:=Hd hw3
   have KC:=Hd (KFN2.out hal w3 bw (HB1.out.trans (HB3.out.mono HB1.out.size)) (by have h1:=HBW.out.2.2.1;have h2:=HB1.out.size;omega) hx3)
   have HALT:=Hd hal
   clear hi hb hno hll hal hbw hw3 hb3 hx3 KFN2
   go_upto_region 9 with fail
   rw[←HW3.out,←HBW.out.1]
   obtain⟨x0,x1,x2,x3,x4,x5⟩:=HX.out _ HB3.out
   go_wp2_with fail
   refine KC.out.mono ?_
   rintro e w7 ⟨rs,u,n1,rfl,hr7,hx7,hy7,hn7,hl7,hbut⟩
   have HB7:Hid (Below w1.heap.size w1 w7):=Hd (HB3.out.trans (hbut.below HB3.out.size fun x hx=>by subst hx;exact HBW.out.2.2.1))
   have HX7:=Hd hx7
   have HN7:=Hd (And.intro hy7 hn7)
   have HR7:=Hd hr7
   have HL7:=Hd hl7
   clear hr7 hx7 hy7 hn7 hbut hl7 KC x0 x1 x2 x3 x4 x5
   obtain⟨k8,s8,n8,ps8,fs8,vs8⟩:=u
   obtain⟨A8,c8,B8,d8,C8,e8,rfl,-⟩:=HR7.out.inv
   simp only[cells6T] at HR7 ⊢
   obtain⟨w8,hw8⟩:∃ x,x=w7.alloc (.cells #[.int .i64 k8,.string s8,.int .i64 n8,.slice A8 ps8.length c8,.slice B8 fs8.length d8,.slice C8 vs8.length e8] 26):=⟨_,rfl⟩
   have hb8:Below w7.heap.size w7 w8:=by rw[hw8];exact (Below.refl _ _).alloc (Nat.le_refl _) _
   have hx8:w8.heap[w7.heap.size]?=some (.cells #[.int .i64 k8,.string s8,.int .i64 n8,.slice A8 ps8.length c8,.slice B8 fs8.length d8,.slice C8 vs8.length e8] 26 (0,0)):=by rw[hw8];exact heap_alloc_new w7 _
   have HB8:=Hd (HB7.out.trans (hb8.mono HB7.out.size))
   have HX8:=Hd hx8
   have hx9:=box_up hb8 (Array.getElem?_eq_some_iff.1 HX7.out).1 HX7.out
   have HR8:=Hd (HR7.out.later hb8)
   have HW8:=Hd hw8
   have rb:=box_up HB8.out (by have:=HS1.out;omega) HY.out
   have HBE:=Hd (HB1.out.trans (HB8.out.mono HB1.out.size))
   have c9:=Ch hx9 0
   simp only[List.getElem?_toArray,List.getElem?_cons_zero] at c9
   clear hw8 hb8 hx8 hx9
   go_upto_region 10 with fail
   rw[←HW8.out]
   by_cases hN:NN≤4096
   ·obtain⟨hn1,hu⟩:=HN7.out.1 hN
    have t2:decide ((4096:Int)<(n1:Int))=false:=decide_eq_false (by omega)
    have t3:¬ 4096<n1:=by omega
    have HRR:Hid (RepT (fun b=>(K b∨K' b)∨g<b) w8 (.mk k8 s8 n8 ps8 fs8 vs8) [.int .i64 k8,.string s8,.int .i64 n8,.slice A8 ps8.length c8,.slice B8 fs8.length d8,.slice C8 vs8.length e8]):=Hd (HR8.out.weak fun b h=>h.imp id fun h=>by have h1:=HBW.out.2.1;have h2:=HBW.out.2.2.2;omega)
    have HTU:=Hd hu
    have HNL:=Hd hN
    obtain⟨b0,b1,b2,b3,b4,b5⟩:=cz6 HX8.out
    clear hu hN
    obtain⟨q0,q1,q2,q3,q4,q5,z0,z1,z2,z3,z4,z5⟩:=qz6 rb
    have RBX:=Hd rb
    clear rb
    go_wp2_with fail
    obtain⟨r0,r1,r2,r3,r4,r5⟩:=cz6 (six_set RBX.out (.int .i64 k8) (.string s8) (.int .i64 n8) (.slice A8 ps8.length c8) (.slice B8 fs8.length d8) (.slice C8 vs8.length e8))
    clear q0 q1 q2 q3 q4 q5 z0 z1 z2 z3 z4 z5 RBX
    refine bodyPost_ret (v:=.tuple #[.agg #[.int .i64 k8,.string s8,.int .i64 n8,.slice A8 ps8.length c8,.slice B8 fs8.length d8,.slice C8 vs8.length e8],.int .i64 0]) (by simp[results,Tryz.results11,go_sem,r0,r1,r2,r3,r4,r5]) rfl ?_
    clear r0 r1 r2 r3 r4 r5
    refine HPO.out.2.1 HALT.out HNL.out _ _ ?_
    exact⟨[.int .i64 k8,.string s8,.int .i64 n8,.slice A8 ps8.length c8,.slice B8 fs8.length d8,.slice C8 vs8.length e8],rfl,by rw[←HTU.out];exact ret_box HRR.out (fun b h=>by have h1:=HLO.out b h;have h2:=HG.out;omega) (by have:=HG.out;omega) _ _ _ _ _ _,set_six_below HBE.out (by have:=HG.out;omega) _ _ _ _ _ _⟩
   ·have hn1:=HN7.out.2 (by omega)
    have t2:decide ((4096:Int)<(n1:Int))=true:=decide_eq_true (by omega)
    have HNL:=Hd hN
    clear hN
    obtain⟨q0,q1,q2,q3,q4,q5,z0,z1,z2,z3,z4,z5⟩:=qz6 rb
    have RBX:=Hd rb
    clear rb
    go_wp2_with fail
    obtain⟨r0,r1,r2,r3,r4,r5⟩:=cz6 (six_set RBX.out (.int .i64 0) (.string ⟨#[]⟩) (.int .i64 0) (.slice none 0 0) (.slice none 0 0) (.slice none 0 0))
    clear q0 q1 q2 q3 q4 q5 z0 z1 z2 z3 z4 z5 RBX
    refine bodyPost_ret (v:=.tuple #[.agg #[.int .i64 0,.string ⟨#[]⟩,.int .i64 0,.slice none 0 0,.slice none 0 0,.slice none 0 0],.int .i64 10]) (by simp[results,Tryz.results11,go_sem,r0,r1,r2,r3,r4,r5]) rfl ?_
    clear r0 r1 r2 r3 r4 r5
    refine HPO.out.2.2 HALT.out HNL.out _ _ ?_
    exact⟨rfl,set_six_below HBE.out (by have:=HG.out;omega) _ _ _ _ _ _⟩
end Go.Proofs.YtlpfpehegddcfaaGreatDoor
