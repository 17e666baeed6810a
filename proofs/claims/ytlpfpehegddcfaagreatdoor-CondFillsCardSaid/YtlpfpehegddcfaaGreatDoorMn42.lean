import Derived.Test.YtlpfpehegddcfaaGreatDoorMn35
import Derived.Test.YtlpfpehegddcfaaGreatDoorMn36
import Derived.Test.YtlpfpehegddcfaaGreatDoorMn37
import Derived.Test.YtlpfpehegddcfaaGreatDoorMn38
import Derived.Test.YtlpfpehegddcfaaGreatDoorMn39
import Derived.Test.YtlpfpehegddcfaaGreatDoorMn41
namespace Go.Proofs.YtlpfpehegddcfaaGreatDoor
set_option maxRecDepth 100000
set_option maxHeartbeats 64000000
open Go.RowKit
structure FilM (K:Nat→Prop) (w:World) (m n:Nat) (V:Nat→Value) (h0:V 0=.agg #[.int .i64 0,.string ⟨#[]⟩,.int .i64 0,.slice none 0 0,.slice none 0 0,.slice none 0 0]) (L:List (ByteArray×Ty)):Prop where
 box:w.heap[m+1]?=some (.cells #[.map (some m),.int .i64 n] 69 (0,0))
 map:MapIs (tysMK V h0) w m L.length (firstN L)
 val:∀ i (h:i<L.length),∃ cs:List Value,V (i+1)=.agg cs.toArray∧RepT K w L[i].2 cs
def CFillA (P:Nat→Prop) (m:Nat) (w:World) (F:ByteArray→Option Ty) (p:Ty) (n0:Nat):Ending→World→Prop:=fun e w'=>∃ (rs:List Value) (u:Ty) (n1:Nat),e=.returned (.agg rs.toArray)∧RepT P w' u rs∧w'.heap[m+1]?=some (.cells #[.map (some m),.int .i64 n1] 69 (0,0))∧(n0+fillN F p≤4096→n1=n0+fillN F p∧u=fillT F p)∧(4096<n0+fillN F p→4096<n1)∧n1≤n0+cntT p*4097∧cntT u≤cntT p*4097∧ButG (fun x=>x=m+1) w w'
theorem val_tys {K:Nat→Prop} {w:World} {V:Nat→Value} {h0:V 0=.agg #[.int .i64 0,.string ⟨#[]⟩,.int .i64 0,.slice none 0 0,.slice none 0 0,.slice none 0 0]} {L:List (ByteArray×Ty)} (hv:∀ i (h:i<L.length),∃ cs:List Value,V (i+1)=.agg cs.toArray∧RepT K w L[i].2 cs) (o:Option Nat) (ho:∀ j,o=some j→1≤j∧j≤L.length):∃ (k7:Int) (s7:ByteArray) (n7:Int) (A7:Option Addr) (a7 c7:Nat) (B7:Option Addr) (b7 d7:Nat) (C7:Option Addr) (z7 e7:Nat),V (o.getD 0)=.agg #[.int .i64 k7,.string s7,.int .i64 n7,.slice A7 a7 c7,.slice B7 b7 d7,.slice C7 z7 e7]:=by
 rcases o with _ | j
 ·exact⟨0,_,0,_,_,_,_,_,_,_,_,_,h0⟩
 ·obtain⟨h1,h2⟩:=ho j rfl
  obtain⟨cs,h3,h4⟩:=hv (j - 1) (by omega)
  rw[show j - 1+1=j from by omega] at h3
  generalize (L[j - 1]'(by omega)).2=u at h4
  obtain⟨k,s,n,ps,fs,vs⟩:=u
  obtain⟨A,c,B,d,C,e,rfl,-⟩:=h4.inv
  exact⟨k,s,n,A,_,c,B,_,d,C,_,e,h3⟩
theorem firstN_le:∀ (L:List (ByteArray×Ty)) (s:ByteArray) (j:Nat),firstN L s=some j→1≤j∧j≤L.length
 | [],s,j,h=>by rw[firstN] at h;cases h
 | f :: l,s,j,h=>by
  rw[firstN] at h
  split at h
  ·have:=Option.some.inj h;rw[List.length_cons];omega
  ·rcases hm:firstN l s with _ | q
   ·rw[hm] at h;cases h
   ·rw[hm] at h
    have h1:=firstN_le l s q hm
    have h2:=Option.some.inj h
    simp only at h2
    rw[List.length_cons]
    omega
theorem cfill_any {K K':Nat→Prop} {w:World} {p:Ty} {cs:List Value} {L:List (ByteArray×Ty)} {AL:Option Addr} {cL:Nat} {F:ByteArray→Option Ty} (hr:RepT K w p cs) (hL:ListD K' w L AL cL) (hlo:∀ x,K x∨K' x→x<w.heap.size) (hft:formedT p=true)
  (kf:L.all (fun f=>formedT f.2)=true→∀ (wx:World) (m:Nat) (V:Nat→Value) (h0:V 0=.agg #[.int .i64 0,.string ⟨#[]⟩,.int .i64 0,.slice none 0 0,.slice none 0 0,.slice none 0 0]),Below w.heap.size w wx→w.heap.size+2≤m→AtT K wx p w.heap.size 0→FilM K' wx m 0 V h0 L→Calls Tryz.prog 36 #[.pointer (some ⟨m+1,0,none⟩),.pointer (some ⟨w.heap.size,0,none⟩)] wx (CFillA (fun x=>(K x∨K' x)∨w.heap.size+2≤x) m wx F p 0)) :
  Calls Tryz.prog 10 #[.agg cs.toArray,.slice AL L.length cL] w (if L.all (fun f=>formedT f.2)=true then (if fillN F p≤4096 then RightPost (fun x=>K x∨K' x) w (fillT F p) else ErrPost w 10) else ErrPost w 4):=by
 have KF0:=fun wx (hx:Below w.heap.size w wx)=>Formed_any (hr.later hx)
 rw[hft] at KF0
 have KFN:=Hd kf
 have HLO:=Hd hlo
 have HLS:=Hd hL.short
 have HNP:Hid (cntT p≤4096):=Hd (by
  unfold formedT at hft
  simp only[Bool.and_eq_true,decide_eq_true_eq] at hft
  exact hft.1)
 generalize hNN:fillN F p=NN
 generalize hTT:fillT F p=TT
 have HNN:=Hd hNN
 have HTT:=Hd hTT
 generalize hAL:L.all (fun f=>formedT f.2)=al at KFN ⊢
 have HAL:=Hd hAL
 clear hAL
 generalize hPO:(if al=true then (if NN≤4096 then RightPost (fun x=>K x∨K' x) w TT else ErrPost w 10) else ErrPost w 4)=PO
 have HPO:Hid ((al=false→∀ e w',ErrPost w 4 e w'→PO e w')∧(al=true→NN≤4096→∀ e w',RightPost (fun x=>K x∨K' x) w TT e w'→PO e w')∧(al=true→¬ NN≤4096→∀ e w',ErrPost w 10 e w'→PO e w')):=Hd ⟨fun h e w' hp=>by
  rw[←hPO,if_neg (by simp[h])]
  exact hp,fun h h2 e w' hp=>by
  rw[←hPO,if_pos h,if_pos h2]
  exact hp,fun h h2 e w' hp=>by
  rw[←hPO,if_pos h,if_neg h2]
  exact hp⟩
 clear hPO kf
 obtain⟨V,h0,bL,oL,hA0,hvv⟩:=hL.vals
 have HVV:=Hd hvv
 have HA0:=Hd hA0
 have hpp:=hr
 have HR0:=Hd hpp
 obtain⟨p0,hp0⟩:∃ x,x=p:=⟨_,rfl⟩
 have HP0:=Hd hp0
 clear hp0 hpp
 obtain⟨k,s,n,ps,fs,vs⟩:=p
 refine one_res hr fun A c B d C e w1 g h hcs=>?_
 subst hcs
 obtain⟨HX,HY,HB1,HS1,HG,HW1,-⟩:=h
 have KF:=Hd (KF0 w1 HB1.out)
 clear hr hL hlo hft KF0 hNN hTT hvv hA0
 go_enter Tryz.func10,Tryz.ntmps10
 go_upto_region 1 with fail
 rw[←HW1.out,←HG.out]
 obtain⟨x0,x1,x2,x3,x4,x5⟩:=HX.out _ (Below.refl _ _)
 go_wp2_with fail
 refine KF.out.mono ?_
 rintro e w2 ⟨rfl,hb2⟩
 have HB12:=Hd hb2
 clear hb2 KF x0 x1 x2 x3 x4 x5
 obtain⟨m,hm⟩:∃ m,m=w2.heap.size:=⟨_,rfl⟩
 obtain⟨wd,hwd⟩:∃ x,x=w2.alloc (.map #[] 0):=⟨_,rfl⟩
 obtain⟨we,hwe⟩:∃ x,x=wd.alloc (.cells #[.map (some m),.int .i64 0] 69):=⟨_,rfl⟩
 have hbd:Below w2.heap.size w2 wd:=by rw[hwd];exact (Below.refl _ _).alloc (Nat.le_refl _) _
 have hbe:Below wd.heap.size wd we:=by rw[hwe];exact (Below.refl _ _).alloc (Nat.le_refl _) _
 have hsd:wd.heap.size=m+1:=by rw[hwd,hm];simp
 have hxg:we.heap[m+1]?=some (.cells #[.map (some m),.int .i64 0] 69 (0,0)):=by
  have h:=heap_alloc_new wd (.cells #[.map (some m),.int .i64 0] 69)
  rw[hsd] at h
  rw[hwe]
  exact h
 have hmap:MapIs (tysMK V h0) we m 0 (fun _=>none):=(by rw[hwd,hm];exact MapIs.new _ w2:MapIs (tysMK V h0) wd m 0 (fun _=>none)).later hbe
 have HM:=Hd hm
 have HMAP:=Hd hmap
 have HXG:=Hd hxg
 have HB1E:Hid (Below w1.heap.size w1 we):=Hd (HB12.out.trans ((hbd.trans (hbe.mono hbd.size)).mono HB12.out.size))
 have HWD:=Hd hwd
 have HWE:=Hd hwe
 have HSE:Hid (we.heap.size=m+2):=Hd (by rw[hwe];simp[hsd])
 have HMW:Hid (g+1≤m):=Hd (by have h1:=HS1.out;have h2:=HB12.out.size;omega)
 clear hwd hwe hbd hbe hsd hxg hmap hm
 have hmm:=@run_makeMap Tryz.prog
 go_upto_region 4 with fail
 clear hmm
 rw[←HWD.out,←HM.out,←HWE.out]
 clear HWD HWE
 go_wp2_with fail
 go_loopw [21] (fun v wr=>∃ i:Nat,i≤L.length∧v=.int .i64 i∧(∀ f∈L.take i,formedT f.2=true)∧MapIs (tysMK V h0) wr m i (firstN (L.take i))∧ButG (fun x=>x=m) we wr) (fun v _=>L.length - (intOf v).toNat)
 case atStart=>exact⟨0,by omega,rfl,fun f h=>absurd h (by simp),HMAP.out,ButG.refl _ _⟩
 case round=>
  obtain⟨i,hi,rfl,hno,hmp,hbw⟩:=hrel
  have HNO:=Hd hno
  have HMP:=Hd hmp
  have HBW:=Hd hbw
  have HBR:Hid (Below w1.heap.size w1 wr):=Hd (HB1E.out.trans (hbw.below HB1E.out.size fun x hx=>by have h1:=HMW.out;have h2:=HS1.out;omega))
  have HBX:=Hd (hbw.up (by show ¬ (m+1=m);omega) HXG.out)
  have hll:=HLS.out
  by_cases hin:i<L.length
  ·have t1:decide ((i:Int)<(L.length:Int))=true:=by simp;omega
   have wr2:wrap64 ((i:Int)+1)=((i+1:Nat):Int):=wrap_one (by omega)
   have HMI:=Hd (measI hin)
   obtain⟨hA,hKb⟩:=HA0.out (by omega)
   subst hA
   obtain⟨hn0,hns,es,hVi,hrq,hes⟩:=HVV.out i hin
   have HNX:Hid (formedT (L[i]'hin).2=true→∀ f∈L.take (i+1),formedT f.2=true):=Hd fun e f hf=>by
    rw[List.take_succ_eq_append_getElem hin,List.mem_append,List.mem_singleton] at hf
    rcases hf with hf | rfl
    ·exact HNO.out f hf
    ·exact e
   have HYS:Hid (formedT (L[i]'hin).2=false→al=false):=Hd fun e=>by
    rw[←HAL.out,List.all_eq_false]
    exact⟨_,List.getElem_mem hin,by simp[e]⟩
   have HFN:Hid (∀ x,firstN (L.take (i+1)) x=(match firstN (L.take i) x with | some j=>some j | none=>if (L[i]'hin).1=x then some (i+1) else none)):=Hd (firstN_next L i hin)
   have hbo:=HB1.out.trans (HBR.out.mono HB1.out.size)
   have KG0:=fun wx (hx:Below wr.heap.size wr wx)=>Formed_any ((hrq.later hbo).later hx)
   have HIn:Hid (i+1≤L.length):=Hd hin
   have HVL:=Hd (val_tys (h0:=h0) (K:=K') (w:=w) (L:=L) (V:=V) (fun i h=>by obtain⟨_,_,es,h1,h2,_⟩:=HVV.out i h;exact⟨es,h1,h2⟩) (firstN (L.take i) (L[i]'hin).1) fun j hj=>by have h1:=firstN_le _ _ _ hj;rw[List.length_take] at h1;omega)
   generalize L[i]'hin=fo at hn0 hns hrq hes HNX HYS HFN KG0 HVL
   obtain⟨nm,u⟩:=fo
   dsimp only at hn0 hns hrq hes HNX HYS HFN KG0 HVL
   have HNM:Hid (nm.size≤maxLen):=Hd (by simp only[maxLen];omega)
   obtain⟨k4,s4,n4,ps4,fs4,vs4⟩:=u
   obtain⟨A4,c4,B4,d4,C4,e4,rfl,-⟩:=hrq.inv
   simp only[cells6T] at hes KG0 hVi
   have HVI:=Hd hVi
   generalize formedT (.mk k4 s4 n4 ps4 fs4 vs4)=fb at HNX HYS KG0
   have q0:=cell_stays hbo hn0
   have y1:=cell_stays hbo (hes 0 _ rfl)
   have y2:=cell_stays hbo (hes 1 _ rfl)
   have y3:=cell_stays hbo (hes 2 _ rfl)
   have y4:=cell_stays hbo (hes 3 _ rfl)
   have y5:=cell_stays hbo (hes 4 _ rfl)
   have y6:=cell_stays hbo (hes 5 _ rfl)
   have q1:wr.cell? ⟨bL,oL+i*7+1,none⟩=some (.int .i64 k4):=y1
   have q2:wr.cell? ⟨bL,oL+i*7+2,none⟩=some (.string s4):=y2
   have q3:wr.cell? ⟨bL,oL+i*7+3,none⟩=some (.int .i64 n4):=y3
   have q4:wr.cell? ⟨bL,oL+i*7+4,none⟩=some (.slice A4 ps4.length c4):=y4
   have q5:wr.cell? ⟨bL,oL+i*7+5,none⟩=some (.slice B4 fs4.length d4):=y5
   have q6:wr.cell? ⟨bL,oL+i*7+6,none⟩=some (.slice C4 vs4.length e4):=y6
   obtain⟨go,hgo⟩:∃ go,go=wr.heap.size:=⟨_,rfl⟩
   obtain⟨w2,hw2⟩:∃ x,x=wr.alloc (.cells #[.string nm,.int .i64 k4,.string s4,.int .i64 n4,.slice A4 ps4.length c4,.slice B4 fs4.length d4,.slice C4 vs4.length e4] 31):=⟨_,rfl⟩
   have hb2:Below wr.heap.size wr w2:=by rw[hw2];exact (Below.refl _ _).alloc (Nat.le_refl _) _
   have hx2:w2.heap[go]?=some (.cells #[.string nm,.int .i64 k4,.string s4,.int .i64 n4,.slice A4 ps4.length c4,.slice B4 fs4.length d4,.slice C4 vs4.length e4] 31 (0,0)):=by rw[hw2,hgo];exact heap_alloc_new wr _
   have HBE2:=Hd hb2
   have HX2:=Hd hx2
   have HW2:=Hd hw2
   have HGO:=Hd hgo
   have KG:=Hd (KG0 w2 hb2)
   have i1:(0:Int)≤(i:Int):=by omega
   have i2:(i:Int)<(L.length:Int):=by omega
   clear hi hno hmp hbw hll hn0 hns hrq hes hVi hKb KG0 y1 y2 y3 y4 y5 y6 hbo hgo hb2 hx2 hw2
   go_upto_region 7 with fail
   rw[←HW2.out,←HGO.out]
   clear HW2 q0 q1 q2 q3 q4 q5 q6
   obtain⟨z0,z1,z2,z3,z4,z5,z6⟩:w2.cell? ⟨go,0,none⟩=some (.string nm)∧w2.cell? ⟨go,1,none⟩=some (.int .i64 k4)∧w2.cell? ⟨go,2,none⟩=some (.string s4)∧w2.cell? ⟨go,3,none⟩=some (.int .i64 n4)∧w2.cell? ⟨go,4,none⟩=some (.slice A4 ps4.length c4)∧w2.cell? ⟨go,5,none⟩=some (.slice B4 fs4.length d4)∧w2.cell? ⟨go,6,none⟩=some (.slice C4 vs4.length e4):=⟨Ch HX2.out 0,Ch HX2.out 1,Ch HX2.out 2,Ch HX2.out 3,Ch HX2.out 4,Ch HX2.out 5,Ch HX2.out 6⟩
   go_wp2_with fail
   refine KG.out.mono ?_
   rintro e w3 ⟨rfl,hb3⟩
   have HBE3:=Hd (HBE2.out.trans (hb3.mono HBE2.out.size))
   have HX3:=Hd (box_up hb3 (Array.getElem?_eq_some_iff.1 HX2.out).1 HX2.out)
   have HG3:=Hd (box_up HBE3.out (Array.getElem?_eq_some_iff.1 HBX.out).1 HBX.out)
   have HB13:=Hd (HBR.out.trans (HBE3.out.mono HBR.out.size))
   clear hb3 KG z0 z1 z2 z3 z4 z5 z6
   rcases Bool.eq_false_or_eq_true fb with hfo | hfo
   ·subst hfo
    have HS9:Hid (∀ wx,Below w3.heap.size w3 wx→(wx.cell? ⟨m+1,0,none⟩=some (.map (some m)))∧(wx.cell? ⟨go,0,none⟩=some (.string nm)∧wx.cell? ⟨go,1,none⟩=some (.int .i64 k4)∧wx.cell? ⟨go,2,none⟩=some (.string s4)∧wx.cell? ⟨go,3,none⟩=some (.int .i64 n4)∧wx.cell? ⟨go,4,none⟩=some (.slice A4 ps4.length c4)∧wx.cell? ⟨go,5,none⟩=some (.slice B4 fs4.length d4)∧wx.cell? ⟨go,6,none⟩=some (.slice C4 vs4.length e4))):=Hd fun wx hx=>by
     have h1:=box_up hx (Array.getElem?_eq_some_iff.1 HG3.out).1 HG3.out
     have h2:=box_up hx (Array.getElem?_eq_some_iff.1 HX3.out).1 HX3.out
     exact⟨Ch h1 0,Ch h2 0,Ch h2 1,Ch h2 2,Ch h2 3,Ch h2 4,Ch h2 5,Ch h2 6⟩
    have HNX2:=Hd (HNX.out (by first | rfl | trivial))
    obtain⟨k7,s7,n7,A7,a7,c7,B7,b7,d7,C7,z7,e7,hval⟩:=HVL.out
    obtain⟨tw,htw⟩:∃ tw,tw=(firstN (L.take i) nm).isSome:=⟨_,rfl⟩
    have HLK:Hid (∀ wx,Below w3.heap.size w3 wx→(Instr.lookup 67 (.map (some m)) (.string nm) true).run Tryz.prog wx=.ok (.tuple #[.agg #[.int .i64 k7,.string s7,.int .i64 n7,.slice A7 a7 c7,.slice B7 b7 d7,.slice C7 z7 e7],.bool tw]) wx):=Hd fun wx hx=>by
     have h:=((HMP.out.later (HBE3.out.trans (hx.mono HBE3.out.size)))).look2 nm HNM.out
     have e1:(tysMK V h0).val ((firstN (L.take i) nm).getD (tysMK V h0).zero)=.agg #[.int .i64 k7,.string s7,.int .i64 n7,.slice A7 a7 c7,.slice B7 b7 d7,.slice C7 z7 e7]:=hval
     rw[e1,←htw] at h
     exact h
    have HTW:=Hd htw
    clear hval htw HVL
    go_upto_region 9 with fail
    refine wp_region_held_drew (S:=(fun w'=>(w'.cell? ⟨m+1,0,none⟩=some (.map (some m)))∧(w'.cell? ⟨go,0,none⟩=some (.string nm)∧w'.cell? ⟨go,1,none⟩=some (.int .i64 k4)∧w'.cell? ⟨go,2,none⟩=some (.string s4)∧w'.cell? ⟨go,3,none⟩=some (.int .i64 n4)∧w'.cell? ⟨go,4,none⟩=some (.slice A4 ps4.length c4)∧w'.cell? ⟨go,5,none⟩=some (.slice B4 fs4.length d4)∧w'.cell? ⟨go,6,none⟩=some (.slice C4 vs4.length e4)))) (by kernel_rfl) (HS9.out _ (Below.refl _ _).drew) (fun hHeld=>?_)
    refine Plan.start [0,1,2,3,4,5] ?_
    iterate 6 (refine Plan.tk (so rfl) hHeld ?_;try simp only[Act.put,pz1,pz2,pz3])
    refine Plan.done ?_
    refine wpAnyH_ready (rs:=[6,10]) (by kernel_rfl) (by simp) ?_
    refine AllReadyH.cons (sd (some 37) rfl) (fun Kx hK=>?_) (AllReadyH.cons (sd (some 9) rfl) (fun Kx hK=>?_) AllReadyH.nil)
    have lk:=HLK.out _ (Below.refl w3.heap.size w3).drew
    go_simp
    clear lk
    refine hK.out _ _ (HS9.out _ (Below.refl _ _).drew) (fun hHeld=>?_)
    clear hK Kx
    try simp only[Act.put,pz1,pz2,pz3]
    refine Plan.start [7,8,9] ?_
    iterate 3 (refine Plan.tk (so rfl) hHeld ?_;try simp only[Act.put,pz1,pz2,pz3])
    refine Plan.done ?_
    refine wpAnyH_ready (rs:=[10]) (by kernel_rfl) (by simp) ?_
    refine AllReadyH.cons (sd (some 9) rfl) (fun Kx hK=>?_) AllReadyH.nil
    go_simp
    generalize hW:World.drew (World.alloc w3 (.cells #[.int .i64 0,.string ⟨#[]⟩,.int .i64 0,.slice none 0 0,.slice none 0 0,.slice none 0 0] 26))=w4
    have hb:Below w3.heap.size w3 w4:=by rw[←hW];exact ((Below.refl _ _).alloc (Nat.le_refl _) _).drew
    have rs:w4.heap[w3.heap.size]?=some (.cells #[.int .i64 0,.string ⟨#[]⟩,.int .i64 0,.slice none 0 0,.slice none 0 0,.slice none 0 0] 26 (0,0)):=by rw[←hW];exact heap_alloc_new w3 _
    have HB34:=Hd hb
    have HX4:=Hd rs
    clear hW hb rs
    refine hK.out _ _ (HS9.out _ HB34.out) (fun hHeld=>?_)
    clear hK Kx
    try simp only[Act.put,pz1,pz2,pz3]
    rotate_left
    go_simp
    generalize hW:World.drew (World.alloc w3 (.cells #[.int .i64 0,.string ⟨#[]⟩,.int .i64 0,.slice none 0 0,.slice none 0 0,.slice none 0 0] 26))=w4
    have hb:Below w3.heap.size w3 w4:=by rw[←hW];exact ((Below.refl _ _).alloc (Nat.le_refl _) _).drew
    have rs:w4.heap[w3.heap.size]?=some (.cells #[.int .i64 0,.string ⟨#[]⟩,.int .i64 0,.slice none 0 0,.slice none 0 0,.slice none 0 0] 26 (0,0)):=by rw[←hW];exact heap_alloc_new w3 _
    have HB34:=Hd hb
    have HX4:=Hd rs
    clear hW hb rs
    refine hK.out _ _ (HS9.out _ HB34.out) (fun hHeld=>?_)
    clear hK Kx
    try simp only[Act.put,pz1,pz2,pz3]
    have lk:=HLK.out _ HB34.out
    refine wpAnyH_ready (rs:=[6]) (by kernel_rfl) (by simp) ?_
    refine AllReadyH.cons (sd (some 37) rfl) (fun Kx hK=>?_) AllReadyH.nil
    go_simp
    clear lk
    refine hK.out _ _ (HS9.out _ HB34.out) (fun hHeld=>?_)
    clear hK Kx
    try simp only[Act.put,pz1,pz2,pz3]
    refine Plan.start [7,8,9] ?_
    iterate 3 (refine Plan.tk (so rfl) hHeld ?_;try simp only[Act.put,pz1,pz2,pz3])
    refine Plan.done ?_
    all_goals (
     refine wpAnyH_ready (rs:=[11]) (by kernel_rfl) (by simp) ?_
     refine AllReadyH.cons (sd none rfl) (fun Kx hK=>?_) AllReadyH.nil
     go_simp
     obtain⟨q0,q1,q2,q3,q4,q5,z0,z1,z2,z3,z4,z5⟩:=qz6 HX4.out
     go_simp
     clear q0 q1 q2 q3 q4 q5 z0 z1 z2 z3 z4 z5
     have hb:Below w3.heap.size w3 (((((((w4.setCell ⟨w3.heap.size,0,none⟩ (.int .i64 k7)).setCell ⟨w3.heap.size,1,none⟩ (.string s7)).setCell ⟨w3.heap.size,2,none⟩ (.int .i64 n7)).setCell ⟨w3.heap.size,3,none⟩ (.slice A7 a7 c7)).setCell ⟨w3.heap.size,4,none⟩ (.slice B7 b7 d7)).setCell ⟨w3.heap.size,5,none⟩ (.slice C7 z7 e7))):=(((((HB34.out.setCell (Nat.le_refl _) _).setCell (Nat.le_refl _) _).setCell (Nat.le_refl _) _).setCell (Nat.le_refl _) _).setCell (Nat.le_refl _) _).setCell (Nat.le_refl _) _
     generalize hW:(((((((w4.setCell ⟨w3.heap.size,0,none⟩ (.int .i64 k7)).setCell ⟨w3.heap.size,1,none⟩ (.string s7)).setCell ⟨w3.heap.size,2,none⟩ (.int .i64 n7)).setCell ⟨w3.heap.size,3,none⟩ (.slice A7 a7 c7)).setCell ⟨w3.heap.size,4,none⟩ (.slice B7 b7 d7)).setCell ⟨w3.heap.size,5,none⟩ (.slice C7 z7 e7)))=w5 at hb ⊢
     have HB35:=Hd hb
     clear hW hb
     refine hK.out _ _ (HS9.out _ HB35.out) (fun hHeld=>?_)
     clear hK Kx
     try simp only[Act.put,pz1,pz2,pz3]
     refine Plan.start [12] ?_
     refine Plan.tk (so rfl) hHeld ?_
     try simp only[Act.put,pz1,pz2,pz3]
     refine Plan.done ?_
     refine wpAnyH_done (by kernel_rfl) ?_ _
     clear hHeld
     have HBE5:=Hd (HBE3.out.trans (HB35.out.mono HBE3.out.size))
     cases tw with
     | true=>
      have hF:firstN (L.take (i+1))=firstN (L.take i):=by
       funext x
       rw[HFN.out x]
       rcases hx:firstN (L.take i) x with _ | j
       ·simp only
        have h1:=HTW.out
        by_cases e:nm=x
        ·subst e;rw[hx] at h1;cases h1
        ·rw[if_neg e]
       ·rfl
      have HMP2:Hid (MapIs (tysMK V h0) w5 m (i+1) (firstN (L.take (i+1)))):=Hd (by rw[hF];exact (HMP.out.later HBE5.out).more (by omega))
      have HBW2:Hid (ButG (fun x=>x=m) we w5):=Hd (HBW.out.then HBE5.out)
      clear hF
      go_wp2_with fail
      refine⟨⟨i+1,HIn.out,by first | rfl | rw[wr2],HNX2.out,HMP2.out,HBW2.out⟩,?_⟩
      first | exact HMI.out | (rw[wr2];exact HMI.out)
     | false=>
      go_upto_region 11 with fail
      have HB350:=Hd HB35.out.drew
      have HBE50:=Hd HBE5.out.drew
      refine wp_region_held_drew (S:=(fun w'=>(w'.cell? ⟨m+1,0,none⟩=some (.map (some m)))∧(w'.cell? ⟨go,0,none⟩=some (.string nm)∧w'.cell? ⟨go,1,none⟩=some (.int .i64 k4)∧w'.cell? ⟨go,2,none⟩=some (.string s4)∧w'.cell? ⟨go,3,none⟩=some (.int .i64 n4)∧w'.cell? ⟨go,4,none⟩=some (.slice A4 ps4.length c4)∧w'.cell? ⟨go,5,none⟩=some (.slice B4 fs4.length d4)∧w'.cell? ⟨go,6,none⟩=some (.slice C4 vs4.length e4)))) (by kernel_rfl) (HS9.out _ HB350.out) (fun hHeld=>?_)
      refine Plan.start [0,1,2,3,4,5,6,7] ?_
      iterate 8 (refine Plan.tk (so rfl) hHeld ?_;try simp only[Act.put,pz1,pz2,pz3])
      refine Plan.done ?_
      refine wpAnyH_ready (rs:=[8]) (by kernel_rfl) (by simp) ?_
      refine AllReadyH.cons (sd none rfl) (fun Kx hK=>?_) AllReadyH.nil
      go_simp
      obtain⟨w6,hup,hmp6,hg6⟩:=(HMP.out.later HBE50.out).putL (by have h1:=HIn.out;have h2:=HLS.out;simp only[maxLen];omega) nm HNM.out (i+1)
      have e1:(tysMK V h0).val (i+1)=.agg #[.int .i64 k4,.string s4,.int .i64 n4,.slice A4 ps4.length c4,.slice B4 fs4.length d4,.slice C4 vs4.length e4]:=HVI.out
      rw[e1] at hup
      have hup2:(Instr.mapUpdate 67 (.map (some m)) (.string nm) (.agg #[.int .i64 k4,.string s4,.int .i64 n4,.slice A4 ps4.length c4,.slice B4 fs4.length d4,.slice C4 vs4.length e4])).run Tryz.prog w5.drew=.ok () w6:=hup
      have hF:firstN (L.take (i+1))=updF (firstN (L.take i)) nm (i+1):=by
       funext x
       rw[HFN.out x]
       unfold updF
       by_cases e:nm=x
       ·subst e
        rcases hx:firstN (L.take i) nm with _ | j
        ·rfl
        ·have h1:=HTW.out
         rw[hx] at h1
         cases h1
       ·rw[if_neg e,if_neg e]
        rcases firstN (L.take i) x with _ | j <;> rfl
      have HMP2:Hid (MapIs (tysMK V h0) w6 m (i+1) (firstN (L.take (i+1)))):=Hd (by rw[hF];exact hmp6)
      have HBW2:Hid (ButG (fun x=>x=m) we w6):=Hd ((HBW.out.then HBE50.out).grown hg6 fun k hk=>.inl (by injection hk with hk;exact hk.symm))
      have h1:=(hg6.block (m+1) (Nat.lt_of_lt_of_le (Array.getElem?_eq_some_iff.1 HG3.out).1 HB350.out.size) (by simp)).trans (box_up HB350.out (Array.getElem?_eq_some_iff.1 HG3.out).1 HG3.out)
      have h2:=(hg6.block go (Nat.lt_of_lt_of_le (Array.getElem?_eq_some_iff.1 HX3.out).1 HB350.out.size) (by have h3:=HGO.out;have h4:=(Array.getElem?_eq_some_iff.1 HBX.out).1;simp;omega)).trans (box_up HB350.out (Array.getElem?_eq_some_iff.1 HX3.out).1 HX3.out)
      have HS6:Hid ((w6.cell? ⟨m+1,0,none⟩=some (.map (some m)))∧(w6.cell? ⟨go,0,none⟩=some (.string nm)∧w6.cell? ⟨go,1,none⟩=some (.int .i64 k4)∧w6.cell? ⟨go,2,none⟩=some (.string s4)∧w6.cell? ⟨go,3,none⟩=some (.int .i64 n4)∧w6.cell? ⟨go,4,none⟩=some (.slice A4 ps4.length c4)∧w6.cell? ⟨go,5,none⟩=some (.slice B4 fs4.length d4)∧w6.cell? ⟨go,6,none⟩=some (.slice C4 vs4.length e4))):=Hd ⟨Ch h1 0,Ch h2 0,Ch h2 1,Ch h2 2,Ch h2 3,Ch h2 4,Ch h2 5,Ch h2 6⟩
      clear hup hmp6 hg6 e1 hF h1 h2
      go_simp
      clear hup2
      refine hK.out _ _ (HS6.out) (fun hHeld=>?_)
      clear hK Kx
      try simp only[Act.put,pz1,pz2,pz3]
      refine wpAnyH_done (by kernel_rfl) ?_ _
      clear hHeld
      go_wp2_with fail
      refine⟨⟨i+1,HIn.out,by first | rfl | rw[wr2],HNX2.out,HMP2.out,HBW2.out⟩,?_⟩
      first | exact HMI.out | (rw[wr2];exact HMI.out))
   ·subst hfo
    have hal:=HYS.out (by first | rfl | trivial)
    have HALF:=Hd hal
    clear hal
    have rb:=box_up HB13.out (by have:=HS1.out;omega) HY.out
    have HBE:=Hd (HB1.out.trans (HB13.out.mono HB1.out.size))
    obtain⟨q0,q1,q2,q3,q4,q5,z0,z1,z2,z3,z4,z5⟩:=qz6 rb
    have RBX:=Hd rb
    clear rb
    go_wp2_with fail
    obtain⟨r0,r1,r2,r3,r4,r5⟩:=cz6 (six_set RBX.out (.int .i64 0) (.string ⟨#[]⟩) (.int .i64 0) (.slice none 0 0) (.slice none 0 0) (.slice none 0 0))
    clear q0 q1 q2 q3 q4 q5 z0 z1 z2 z3 z4 z5 RBX
    refine bodyPost_ret (v:=.tuple #[.agg #[.int .i64 0,.string ⟨#[]⟩,.int .i64 0,.slice none 0 0,.slice none 0 0,.slice none 0 0],.int .i64 4]) (by simp[results,Tryz.results10,go_sem,r0,r1,r2,r3,r4,r5]) rfl ?_
    clear r0 r1 r2 r3 r4 r5
    refine HPO.out.1 HALF.out _ _ ?_
    exact⟨rfl,set_six_below HBE.out (by have:=HG.out;omega) _ _ _ _ _ _⟩
  ·have t1:decide ((i:Int)<(L.length:Int))=false:=by simp;omega
   have hal:al=true:=by
    rw[←HAL.out,List.all_eq_true]
    intro f hf
    exact hno f (by rw[List.take_of_length_le (by omega)];exact hf)
   have htk:L.take i=L:=List.take_of_length_le (by omega)
   have hil:i=L.length:=by omega
   rw[htk,hil] at hmp
   have hfil:FilM K' wr m 0 V h0 L:=⟨HBX.out,hmp,fun j h=>by obtain⟨_,_,es,h1,h2,_⟩:=HVV.out j h;exact⟨es,h1,h2.later (HB1.out.trans (HBR.out.mono HB1.out.size))⟩⟩
   have hat:AtT K wr p0 w.heap.size 0:=by
    rw[HP0.out]
    refine⟨[.int .i64 k,.string s,.int .i64 n,.slice A ps.length c,.slice B fs.length d,.slice C vs.length e],fun j u hj=>?_,HR0.out.later (HB1.out.trans (HBR.out.mono HB1.out.size))⟩
    obtain⟨x0,x1,x2,x3,x4,x5⟩:=HX.out _ HBR.out
    rw[Nat.zero_add]
    match j,hj with
    | 0,hj=>injection hj with hj;rw[←hj];exact x0
    | 1,hj=>injection hj with hj;rw[←hj];exact x1
    | 2,hj=>injection hj with hj;rw[←hj];exact x2
    | 3,hj=>injection hj with hj;rw[←hj];exact x3
    | 4,hj=>injection hj with hj;rw[←hj];exact x4
    | 5,hj=>injection hj with hj;rw[←hj];exact x5
   have hmw:=HMW.out
   have hgw:=HG.out
   rw[HP0.out] at hat
   have KC0:=KFN.out hal wr m V h0 (HB1.out.trans (HBR.out.mono HB1.out.size)) (by omega) hat hfil
   have HALT:=Hd hal
   have KC:=Hd KC0
   clear hi hno hmp hbw hll hal htk hfil hat hmw hgw KC0 KFN
   go_wp2_with fail
   refine KC.out.mono ?_
   rintro e w7 ⟨rs,u,n1,rfl,hr7,hx7,hy7,hn7,hm7,hl7,hbut⟩
   rw[HNN.out,HTT.out,Nat.zero_add] at hy7
   rw[HNN.out,Nat.zero_add] at hn7
   have HB7:Hid (Below w1.heap.size w1 w7):=Hd (HBR.out.trans (hbut.below HBR.out.size fun x hx=>by have h1:=HMW.out;have h2:=HS1.out;omega))
   have HX7:=Hd hx7
   have HN7:=Hd (And.intro hy7 hn7)
   have HR7:=Hd hr7
   clear hr7 hx7 hy7 hn7 hm7 hl7 hbut KC
   obtain⟨k8,s8,n8,ps8,fs8,vs8⟩:=u
   obtain⟨A8,c8,B8,d8,C8,e8,rfl,-⟩:=HR7.out.inv
   simp only[cells6T] at HR7 ⊢
   obtain⟨w8,hw8⟩:∃ x,x=w7.alloc (.cells #[.int .i64 k8,.string s8,.int .i64 n8,.slice A8 ps8.length c8,.slice B8 fs8.length d8,.slice C8 vs8.length e8] 26):=⟨_,rfl⟩
   have hb8:Below w7.heap.size w7 w8:=by rw[hw8];exact (Below.refl _ _).alloc (Nat.le_refl _) _
   have hx8:w8.heap[w7.heap.size]?=some (.cells #[.int .i64 k8,.string s8,.int .i64 n8,.slice A8 ps8.length c8,.slice B8 fs8.length d8,.slice C8 vs8.length e8] 26 (0,0)):=by rw[hw8];exact heap_alloc_new w7 _
   have HB8:=Hd (HB7.out.trans (hb8.mono HB7.out.size))
   have HX8:=Hd hx8
   have hx9:=box_up hb8 (Array.getElem?_eq_some_iff.1 HX7.out).1 HX7.out
   have HR8:=Hd (HR7.out.later hb8)
   have HW8:=Hd hw8
   have rb:=box_up HB8.out (by have:=HS1.out;omega) HY.out
   have HBE:=Hd (HB1.out.trans (HB8.out.mono HB1.out.size))
   have c9:=Ch hx9 1
   simp only[List.getElem?_toArray,List.getElem?_cons_zero,List.getElem?_cons_succ] at c9
   clear hw8 hb8 hx8 hx9
   go_upto_region 14 with fail
   rw[←HW8.out]
   by_cases hN:NN≤4096
   ·obtain⟨hn1,hu⟩:=HN7.out.1 hN
    have t2:decide ((4096:Int)<(n1:Int))=false:=decide_eq_false (by omega)
    have t3:¬ 4096<n1:=by omega
    have HRR:Hid (RepT (fun b=>(K b∨K' b)∨g<b) w8 (.mk k8 s8 n8 ps8 fs8 vs8) [.int .i64 k8,.string s8,.int .i64 n8,.slice A8 ps8.length c8,.slice B8 fs8.length d8,.slice C8 vs8.length e8]):=Hd (HR8.out.weak fun b h=>h.imp id fun h=>by have h1:=HG.out;omega)
    have HTU:=Hd hu
    have HNL:=Hd hN
    obtain⟨b0,b1,b2,b3,b4,b5⟩:=cz6 HX8.out
    clear hu hN
    obtain⟨q0,q1,q2,q3,q4,q5,z0,z1,z2,z3,z4,z5⟩:=qz6 rb
    have RBX:=Hd rb
    clear rb
    go_wp2_with fail
    obtain⟨r0,r1,r2,r3,r4,r5⟩:=cz6 (six_set RBX.out (.int .i64 k8) (.string s8) (.int .i64 n8) (.slice A8 ps8.length c8) (.slice B8 fs8.length d8) (.slice C8 vs8.length e8))
    clear q0 q1 q2 q3 q4 q5 z0 z1 z2 z3 z4 z5 RBX
    refine bodyPost_ret (v:=.tuple #[.agg #[.int .i64 k8,.string s8,.int .i64 n8,.slice A8 ps8.length c8,.slice B8 fs8.length d8,.slice C8 vs8.length e8],.int .i64 0]) (by simp[results,Tryz.results10,go_sem,r0,r1,r2,r3,r4,r5]) rfl ?_
    clear r0 r1 r2 r3 r4 r5
    refine HPO.out.2.1 HALT.out HNL.out _ _ ?_
    exact⟨[.int .i64 k8,.string s8,.int .i64 n8,.slice A8 ps8.length c8,.slice B8 fs8.length d8,.slice C8 vs8.length e8],rfl,by rw[←HTU.out];exact ret_box HRR.out (fun b h=>by have h1:=HLO.out b h;have h2:=HG.out;omega) (by have:=HG.out;omega) _ _ _ _ _ _,set_six_below HBE.out (by have:=HG.out;omega) _ _ _ _ _ _⟩
   ·have hn1:=HN7.out.2 (by omega)
    have t2:decide ((4096:Int)<(n1:Int))=true:=decide_eq_true (by omega)
    have HNL:=Hd hN
    clear hN
    obtain⟨q0,q1,q2,q3,q4,q5,z0,z1,z2,z3,z4,z5⟩:=qz6 rb
    have RBX:=Hd rb
    clear rb
    go_wp2_with fail
    obtain⟨r0,r1,r2,r3,r4,r5⟩:=cz6 (six_set RBX.out (.int .i64 0) (.string ⟨#[]⟩) (.int .i64 0) (.slice none 0 0) (.slice none 0 0) (.slice none 0 0))
    clear q0 q1 q2 q3 q4 q5 z0 z1 z2 z3 z4 z5 RBX
    refine bodyPost_ret (v:=.tuple #[.agg #[.int .i64 0,.string ⟨#[]⟩,.int .i64 0,.slice none 0 0,.slice none 0 0,.slice none 0 0],.int .i64 10]) (by simp[results,Tryz.results10,go_sem,r0,r1,r2,r3,r4,r5]) rfl ?_
    clear r0 r1 r2 r3 r4 r5
    refine HPO.out.2.2 HALT.out HNL.out _ _ ?_
    exact⟨rfl,set_six_below HBE.out (by have:=HG.out;omega) _ _ _ _ _ _⟩
theorem fits_f {s:Shp} {t:ByteArray} {n:Int} {np nf nv:Nat} (h:fitsB s t n np nf nv=true):(s.f=false→nf=0)∧(s.v=false→nv=0)∧(s.hi=0→np=0):=by
 unfold fitsB at h
 simp only[Bool.and_eq_true,Bool.not_eq_true',Bool.or_eq_false_iff,Bool.or_eq_true,decide_eq_true_eq,beq_iff_eq] at h
 obtain⟨⟨⟨⟨h1,h2⟩,h3⟩,h4⟩,h5,h6⟩:=h
 refine⟨fun e=>?_,fun e=>?_,fun e=>by omega⟩
 ·rw[e] at h3
  have:decide (0<nf)=false:=by simpa using h3
  have:=of_decide_eq_false this
  omega
 ·rw[e] at h4
  have:decide (0<nv)=false:=by simpa using h4
  have:=of_decide_eq_false this
  omega
theorem form_lens {k:Int} {t:ByteArray} {n:Int} {ps:List Ty} {fs:FsT} {vs:VsT} (h:formT (.mk k t n ps fs vs)=true):(k≠14→fs.length=0)∧(k≠13→vs.length=0)∧(k=14→ps.length=0)∧(k=22→ps.length=0):=by
 obtain⟨h1,h2,h3⟩:=fits_f (form_fits h)
 exact⟨fun e=>h1 (shape_f e),fun e=>h2 (shape_v e),fun e=>h3 (by subst e;rfl),fun e=>h3 (by subst e;rfl)⟩
theorem rfill_all {K':Nat→Prop} {b:Nat} {L:List (ByteArray×Ty)} {AL:Option Addr} {cL:Nat} {F:ByteArray→Option Ty} (hF:∀ s u,F s=some u→formT u=true∧cntT u≤4096) (hFL:F=lookD L) (t:Ty) :
  formT t=true→cntT t≤4096→∀ K:Nat→Prop,FillIh K K' b L AL cL F t:=by
 refine Ty.ind (C:=fun t=>formT t=true→cntT t≤4096→∀ K:Nat→Prop,FillIh K K' b L AL cL F t) (fun k s n ps fs vs hp hf _ hfm hct K=>?_) t
 have hc:=hct
 rw[cntT_mk] at hc
 intro wx es m hr hL hK hx hm
 have hi1:∀ p∈ps,FillIh K K' b L AL cL F p:=fun p hp2=>hp p hp2 (form_ps hfm p hp2) (by have:=cntL_mem hp2;omega) K
 have hi2:∀ f∈fs,FillIh K K' b L AL cL F f.2.2:=fun f hf2=>hf f hf2 (form_fs (t:=.mk k s n ps fs vs) hfm f hf2) (by have:=cntF_memT hf2;omega) K
 obtain⟨l1,l2,l3,l4⟩:=form_lens hfm
 by_cases h22:k=22
 ·exact rfill_a h22 (l4 h22) (l1 (by omega)) (l2 (by omega)) hfm hct hr hL hK hx hm hF hFL hi1 hi2
 by_cases h21:k=21
 ·exact rfill_c h21 (l1 (by omega)) (l2 (by omega)) hfm hct hr hL hK hx hm hF hFL hi1 hi2
 by_cases h14:k=14
 ·exact rfill_f h14 (l3 h14) (l2 (by omega)) hfm hct hr hL hK hx hm hF hFL hi1 hi2
 by_cases h13:k=13
 ·exact rfill_v h13 (l1 (by omega)) hfm hct hr hL hK hx hm hF hFL hi1 hi2
 exact rfill_p h22 h21 (l1 h14) (l2 h13) hfm hct hr hL hK hx hm hF hFL hi1 hi2
theorem lookD_mem {L:List (ByteArray×Ty)} {s:ByteArray} {u:Ty} (h:lookD L s=some u):∃ f∈L,f.2=u:=by
 unfold lookD at h
 rcases hf:L.find? (fun f=>decide (f.1=s)) with _ | f
 ·rw[hf] at h;cases h
 ·rw[hf] at h
  exact⟨f,List.mem_of_find?_eq_some hf,Option.some.inj h⟩
theorem formedT_iff {t:Ty} (h:formedT t=true):formT t=true∧cntT t≤4096:=by
 unfold formedT at h
 simp only[Bool.and_eq_true,decide_eq_true_eq] at h
 exact⟨h.2,h.1⟩
theorem rFill_ok {K K':Nat→Prop} {w:World} {p:Ty} {cs:List Value} {L:List (ByteArray×Ty)} {AL:Option Addr} {cL:Nat} (hr:RepT K w p cs) (hL:ListD K' w L AL cL) (hlo:∀ x,K x∨K' x→x<w.heap.size) :
  Calls Tryz.prog 11 #[.agg cs.toArray,.slice AL L.length cL] w (ResA w (ansF (lookD L) p L) (errF (lookD L) p L)):=by
 refine rfill_res hr hL hlo fun hfp hal wx b hx hb hbx=>?_
 have hF:∀ s u,lookD L s=some u→formT u=true∧cntT u≤4096:=fun s u h=>by
  obtain⟨f,hf,rfl⟩:=lookD_mem h
  exact formedT_iff (List.all_eq_true.1 hal f hf)
 have h:=rfill_all (K':=K') (b:=b) (AL:=AL) (cL:=cL) hF rfl p (formedT_iff hfp).1 (formedT_iff hfp).2 K wx cs 0 (hr.later hx) (hL.later hx) (fun x h=>⟨Nat.lt_of_lt_of_le (hlo x h) hx.size,fun e=>by have:=hlo x h;omega⟩) hbx (by omega)
 exact h
end Go.Proofs.YtlpfpehegddcfaaGreatDoor
