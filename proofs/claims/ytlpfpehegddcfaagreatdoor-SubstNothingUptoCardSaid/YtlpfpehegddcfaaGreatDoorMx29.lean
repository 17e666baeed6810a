import Derived.Test.YtlpfpehegddcfaaGreatDoorMx27
namespace Go.Proofs.YtlpfpehegddcfaaGreatDoor
set_option maxRecDepth 100000
set_option maxHeartbeats 64000000
open Go.RowKit
theorem Jdl (hI:L2) {K:Nat->Prop}{U:List Z8}{g mb mf:Nat}{w:World}{bp op tb tq d:Nat}{c:Z8->Nat}{S:Z8->Bool}{s:Z8}{p0 p2 p3:Ty}{k4:Int}{s4:Z8}{n4:Int}{hC:List Ty}{hB:Bx}{hD:Bt} 
  (hX:∀wx,Ad (fun x=>x=mb\/x=mf) w wx->wx.cell? ⟨bp,op+1,none⟩=some (.string s)/\wx.cell? ⟨bp,op+2,none⟩=some (.int .i64 1)/\wx.cell? ⟨bp,op+3,none⟩=some (.slice (some ⟨tb,tq,none⟩) 4 d)) (hR:∀wx,Ad (fun x=>x=mb\/x=mf) w wx->De K wx p0 tb tq/\De K wx (.mk k4 s4 n4 hC hB hD) tb (tq+6)/\De K wx p2 tb (tq+12)/\De K wx p3 tb (tq+18)) (kZ:K tb) (hd:4<=d) (bM:bp≠mb/\bp≠mf)
  (hK:∀x,K x->x<w.heap.size/\x≠mb/\x≠mf) (hS:Fp U w g mb mf c S) (hs:s∈U/\s.size<=maxLen) (aL:U.length<maxLen) (aK:∀x∈Bi (.mk k4 s4 n4 hC hB hD),x∈U/\x.size<=maxLen) (aS:Am (.mk k4 s4 n4 hC hB hD)<=1000000) (hc:∀x,c x+(1+(Am p0+(Am (.mk k4 s4 n4 hC hB hD)+(Am p2+Am p3))))*1000000000000002<=9000000000000000000)
  (i0:(∀x∈Ed p0,x∈U)/\(Aj p0=true/\Dk p0=true)/\L6 p0) (i1:(∀x∈Ed (.mk k4 s4 n4 hC hB hD),x∈U)/\(Aj (.mk k4 s4 n4 hC hB hD)=true/\Dk (.mk k4 s4 n4 hC hB hD)=true)/\L6 (.mk k4 s4 n4 hC hB hD)) (i2:(∀x∈Ed p2,x∈U)/\(Aj p2=true/\Dk p2=true)/\L6 p2) (i3:(∀x∈Ed p3,x∈U)/\(Aj p3=true/\Dk p3=true)/\L6 p3) :
  Calls Tryz.prog 186 #[.pointer (some ⟨g,0,none⟩),.pointer (some ⟨bp,op,none⟩)] w (I2 U g mb mf w c S fun x=>Bp x (.mk 21 s 1 [p0,.mk k4 s4 n4 hC hB hD,p2,p3] [] [])):=by
 have bS:∀(fn:Fn) (first cap:Array Value) (w:World),(Instr.makeFunc fn first cap).run Tryz.prog w=.ok (.func fn first cap) w:=fun _ _ _ _=>rfl;obtain⟨es,hM,kI⟩:=(hR w (Ad.refl _ _)).2.1;obtain⟨A4,c4,B4,d4,C4,e4,rfl,-⟩:=kI.inv;simp only[Az]at hM kI;obtain⟨c2,aB⟩:∃x,x=w.heap.size+1:=⟨_,rfl⟩;obtain⟨w2,kL⟩:∃x,x=(w.alloc (.cells #[.pointer (some ⟨g,0,none⟩)] 184)).alloc (.cells #[.pointer (some ⟨bp,op,none⟩)] 72):=⟨_,rfl⟩;have aA:Below w.heap.size w (w.alloc (.cells #[.pointer (some ⟨g,0,none⟩)] 184)):=(Below.refl _ _).alloc (Nat.le_refl _) _;have hO:Below (w.alloc (.cells #[.pointer (some ⟨g,0,none⟩)] 184)).heap.size (w.alloc (.cells #[.pointer (some ⟨g,0,none⟩)] 184)) w2:=by rw[kL];exact (Below.refl _ _).alloc (Nat.le_refl _) _
 have kH:Below w.heap.size w w2:=aA.trans (hO.mono aA.size);have aX:w2.heap[w.heap.size]?=some (.cells #[.pointer (some ⟨g,0,none⟩)] 184 (0,0)):=Bj hO (by simp) (heap_alloc_new w _);have aY:w2.heap[c2]?=some (.cells #[.pointer (some ⟨bp,op,none⟩)] 72 (0,0)):=by
  have h:=heap_alloc_new (w.alloc (.cells #[.pointer (some ⟨g,0,none⟩)] 184)) (.cells #[.pointer (some ⟨bp,op,none⟩)] 72);rw[kL,aB];simpa using h
 have bN:=hS.lt;have hW:Z9 ((w.heap.size≠mb/\w.heap.size≠mf)/\(c2≠mb/\c2≠mf)/\bp≠mb/\bp≠mf):=Hd (by omega);have LIFT:Z9 (∀wx,Ad (fun x=>x=mb\/x=mf) w2 wx->Ad (fun x=>x=mb\/x=mf) w wx):=Hd fun wx hx=>Ad.from kH hx;have kB:Z9 (tb≠mb/\tb≠mf):=Hd (hK tb kZ).2;have aQ:∀x,K x->¬ (x=mb\/x=mf)/\K x:=fun x hx=>⟨fun e=>e.elim (hK x hx).2.1 (hK x hx).2.2,hx⟩;have bI:Z9 (∀wx,Ad (fun x=>x=mb\/x=mf) w2 wx->Aw K wx (.mk k4 s4 n4 hC hB hD) [.int .i64 k4,.string s4,.int .i64 n4,.slice A4 hC.length c4,.slice B4 hB.length d4,.slice C4 hD.length e4]):=Hd fun wx hx=>kI.but (LIFT.o wx hx) aQ;have HC:Z9 (∀wx,Ad (fun x=>x=mb\/x=mf) w2 wx->wx.cell? ⟨w.heap.size,0,none⟩=some (.pointer (some ⟨g,0,none⟩))/\wx.cell? ⟨c2,0,none⟩=some (.pointer (some ⟨bp,op,none⟩))/\wx.cell? ⟨bp,op+1,none⟩=some (.string s)/\wx.cell? ⟨bp,op+2,none⟩=some (.int .i64 1)/\wx.cell? ⟨bp,op+3,none⟩=some (.slice (some ⟨tb,tq,none⟩) 4 d)/\(wx.cell? ⟨tb,tq+6,none⟩=some (.int .i64 k4)/\wx.cell? ⟨tb,tq+6+1,none⟩=some (.string s4)/\wx.cell? ⟨tb,tq+6+2,none⟩=some (.int .i64 n4)/\wx.cell? ⟨tb,tq+6+3,none⟩=some (.slice A4 hC.length c4)/\wx.cell? ⟨tb,tq+6+4,none⟩=some (.slice B4 hB.length d4)/\wx.cell? ⟨tb,tq+6+5,none⟩=some (.slice C4 hD.length e4))):=Hd fun wx hx=>by
  obtain⟨a1,a2,a3⟩:=hX wx (LIFT.o wx hx);have hU:¬ (tb=mb\/tb=mf):=fun e=>e.elim kB.o.1 kB.o.2;have hl:=LIFT.o wx hx;exact⟨by rw[Ch (hx.up (fun e=>e.elim hW.o.1.1 hW.o.1.2) aX)];rfl,by rw[Ch (hx.up (fun e=>e.elim hW.o.2.1.1 hW.o.2.1.2) aY)];rfl,a1,a2,a3,hl.cell hU (hM 0 _ rfl),hl.cell hU (hM 1 _ rfl),hl.cell hU (hM 2 _ rfl),hl.cell hU (hM 3 _ rfl),hl.cell hU (hM 4 _ rfl),hl.cell hU (hM 5 _ rfl)⟩
 have kF:Z9 (∀wx,Ad (fun x=>x=mb\/x=mf) w2 wx->∀x,K x->x<wx.heap.size/\x≠mb/\x≠mf):=Hd fun wx hx x h=>⟨Nat.lt_of_lt_of_le (hK x h).1 (LIFT.o wx hx).size,(hK x h).2⟩;have kM:Z9 (∀wx,Ad (fun x=>x=mb\/x=mf) w2 wx->De K wx p0 tb tq):=Hd fun wx hx=>(hR wx (LIFT.o wx hx)).1;have kN:Z9 (∀wx,Ad (fun x=>x=mb\/x=mf) w2 wx->De K wx (.mk k4 s4 n4 hC hB hD) tb (tq+6)):=Hd fun wx hx=>(hR wx (LIFT.o wx hx)).2.1;have kO:Z9 (∀wx,Ad (fun x=>x=mb\/x=mf) w2 wx->De K wx p2 tb (tq+12)):=Hd fun wx hx=>(hR wx (LIFT.o wx hx)).2.2.1;have kP:Z9 (∀wx,Ad (fun x=>x=mb\/x=mf) w2 wx->De K wx p3 tb (tq+18)):=Hd fun wx hx=>(hR wx (LIFT.o wx hx)).2.2.2;have kD:=Hd i0;have hV:=Hd i1;have kU:=Hd i2;have kE:=Hd i3;have bF:=Hd hI;have hT:=Hd aL;have kG:=Hd hs;have bH:=Hd aK;have bG:=Hd kZ;have HD:=Hd hd;have kT:=Hd hc;have aF:Z9 ((Bi (.mk k4 s4 n4 hC hB hD)).length<=Am (.mk k4 s4 n4 hC hB hD)/\Am (.mk k4 s4 n4 hC hB hD)<=1000000):=Hd ⟨Er _,aS⟩;have kQ:Z9 (∀x,c x+Am p0*1000000000000002<=9000000000000000000):=Hd fun x=>Rs (b:=0) (hc x) (by omega) (by omega) (by decide);have kR:Z9 (∀x,(fun x=>c x+(if s=x then 1 else 0)) x+Am (.mk k4 s4 n4 hC hB hD)*1000000000000002<=9000000000000000000):=Hd fun x=>Rs (hc x) (by omega) (by split <;> omega) (by decide);have bC:Z9 (∀x,(fun x=>c x+(if s=x then 1 else 0)) x+Am p2*1000000000000002<=9000000000000000000):=Hd fun x=>Rs (hc x) (by omega) (by split <;> omega) (by decide);have kS:Z9 (∀x,(fun x=>c x+(if s=x then 1 else 0)) x+Am p3*1000000000000002<=9000000000000000000):=Hd fun x=>Rs (hc x) (by omega) (by split <;> omega) (by decide);have kW:=Hd (hS.later kH);have hE:Z9 (Ad (fun x=>x=mb\/x=mf) w2 w2):=Hd (Ad.refl _ _);have bK:=Hd kL;have bB:=Hd aB;have bA:=Hd kH;have j1:(0:Int)<4:=by decide
 have j2:(1:Int)<4:=by decide
 have j3:(3:Int)<4:=by decide
 have bR:¬ d=2:=by omega
 have j4:(3:Int)<=(d:Int):=by omega
 clear hX hR kZ hd bM hK hS hs aL aK aS hc i0 i1 i2 i3 hI  hM kI aB kL aA hO kH aX aY bN aQ
 go_enter_defers Tryz.func186,Tryz.ntmps186
 go_upto_region 1 with fail
 rw[<-bK.o,<-bB.o];obtain⟨-,y2,-,-,y5,-⟩:=HC.o w2 hE.o;have aG:=Hd (kD.o.2.2 K U g mb mf w2.drew tb (tq) _ _ (kM.o _ (hE.o.then (Below.refl _ _).drew)) kB.o (kF.o _ (hE.o.then (Below.refl _ _).drew)) (kW.o.later (Below.refl _ _).drew) kD.o.1 hT.o kQ.o kD.o.2.1.1 kD.o.2.1.2);go_upto_region 3 with fail
 clear y2 y5;refine wp_region_noPanic ?_;refine wp_region_held_drew (S:=(fun w'=>w'.cell? ⟨w.heap.size,0,none⟩=some (.pointer (some ⟨g,0,none⟩))/\w'.cell? ⟨c2,0,none⟩=some (.pointer (some ⟨bp,op,none⟩))/\w'.cell? ⟨bp,op+1,none⟩=some (.string s)/\w'.cell? ⟨bp,op+2,none⟩=some (.int .i64 1)/\w'.cell? ⟨bp,op+3,none⟩=some (.slice (some ⟨tb,tq,none⟩) 4 d)/\(w'.cell? ⟨tb,tq+6,none⟩=some (.int .i64 k4)/\w'.cell? ⟨tb,tq+6+1,none⟩=some (.string s4)/\w'.cell? ⟨tb,tq+6+2,none⟩=some (.int .i64 n4)/\w'.cell? ⟨tb,tq+6+3,none⟩=some (.slice A4 hC.length c4)/\w'.cell? ⟨tb,tq+6+4,none⟩=some (.slice B4 hB.length d4)/\w'.cell? ⟨tb,tq+6+5,none⟩=some (.slice C4 hD.length e4)))) (by kernel_rfl) (HC.o _ (hE.o.then (Below.refl _ _).drew)) (fun hA=>?_);refine Ab.s [0,1,2,3,4,5] ?_
 iterate 6 (refine Ab.k (so rfl) hA ?_;try simp only[Act.put,Bd,Be,Bf])
 refine Ab.d ?_;refine wpAnyH_ready (rs:=[6]) (by kernel_rfl) (by simp) ?_;refine AllReadyH.cons (sd (some 19) rfl) (fun Kx hK=>?_) AllReadyH.nil;go_simp;refine aG.o.mono ?_;rintro e w3 ⟨rfl,hs,hb⟩;have kX:=Hd hs;have hH:Z9 (Ad (fun x=>x=mb\/x=mf) w2 w3):=Hd ((hE.o.then (Below.refl w2.heap.size w2).drew).trans hb fun x h=>.inl h);clear hs hb aG;go_wp2_with fail;refine hK.out _ _ (HC.o _ hH.o) (fun hA=>?_);clear hK Kx;try simp only[Act.put,Bd,Be,Bf]
 refine wpAnyH_done (by kernel_rfl) ?_ _;refine NoPanic.normal ?_;clear hA;obtain⟨-,y2,-,y4,-,-⟩:=HC.o w3 hH.o;obtain⟨v1,aV⟩:∃v1,v1=c s:=⟨_,rfl⟩;obtain⟨v2,aW⟩:∃v2,v2=c s+1:=⟨_,rfl⟩;have bQ:v2<=9000000000000000000:=by have h:=(Jb9 (l:=0) (kT.o s) (Nat.zero_le _) (by decide)).1;omega
 have kJ:=kX.o.later (Below.refl w3.heap.size w3).drew;have lk:(Instr.lookup 185 (.map (some mb)) (.string s) false).run Tryz.prog w3.drew=.ok (.int .i64 (v1:Int)) w3.drew:=by rw[aV];exact kJ.look s kG.o.2
 have LK:=Hd lk;have aZ:wrap64 ((v1:Int)+1)=(v2:Int):=by rw[J0 (by omega) (by omega)];omega
 have vr3:IntKind.i64.wrap ((v1:Int)+1)=(v2:Int):=(Hz _).trans aZ;obtain⟨w5,kK,aT,aM⟩:=kJ.put hT.o s kG.o.1 kG.o.2 v2;have bJ:=Hd kK;have hF:Z9 (Ad (fun x=>x=mb\/x=mf) w2 w5):=Hd ((hH.o.then (Below.refl w3.heap.size w3).drew).trans aM fun x h=>.inl (.inl h));have hY:Z9 (Fp U w5 g mb mf (fun x=>c x+(if s=x then 1 else 0)) (fun x=>S x || (decide (c x=0) && Bp x p0))):=Hd (aT.same (fun x=>by
  by_cases e:s=x
  ·subst e;rw[if_pos rfl,if_pos rfl];exact aW
  ·rw[if_neg e,if_neg e];rfl) fun _=>rfl)
 have aC:∀wx,Ad (fun x=>x=mb\/x=mf) w2 wx->Fp U wx g mb mf c (fun x=>S x || (decide (c x=0) && Bp x p0))\/Fp U wx g mb mf (fun x=>c x+(if s=x then 1 else 0)) (fun x=>S x || (decide (c x=0) && Bp x p0))->wx.cell? ⟨w.heap.size,0,none⟩=some (.pointer (some ⟨g,0,none⟩))/\wx.cell? ⟨c2,0,none⟩=some (.pointer (some ⟨bp,op,none⟩))/\wx.cell? ⟨bp,op+1,none⟩=some (.string s)/\wx.cell? ⟨bp,op+2,none⟩=some (.int .i64 1)/\wx.cell? ⟨bp,op+3,none⟩=some (.slice (some ⟨tb,tq,none⟩) 4 d)/\(wx.cell? ⟨tb,tq+6,none⟩=some (.int .i64 k4)/\wx.cell? ⟨tb,tq+6+1,none⟩=some (.string s4)/\wx.cell? ⟨tb,tq+6+2,none⟩=some (.int .i64 n4)/\wx.cell? ⟨tb,tq+6+3,none⟩=some (.slice A4 hC.length c4)/\wx.cell? ⟨tb,tq+6+4,none⟩=some (.slice B4 hB.length d4)/\wx.cell? ⟨tb,tq+6+5,none⟩=some (.slice C4 hD.length e4))/\wx.cell? ⟨g,0,none⟩=some (.map (some mb)):=fun wx hx bP=>by
  obtain⟨a1,a2,a3,a4,a5,a6⟩:=HC.o wx hx;exact⟨a1,a2,a3,a4,a5,a6,bP.elim (fun h=>h.cell.1) (fun h=>h.cell.1)⟩
 have aE:Z9 (w3.drew.cell? ⟨w.heap.size,0,none⟩=some (.pointer (some ⟨g,0,none⟩))/\w3.drew.cell? ⟨c2,0,none⟩=some (.pointer (some ⟨bp,op,none⟩))/\w3.drew.cell? ⟨bp,op+1,none⟩=some (.string s)/\w3.drew.cell? ⟨bp,op+2,none⟩=some (.int .i64 1)/\w3.drew.cell? ⟨bp,op+3,none⟩=some (.slice (some ⟨tb,tq,none⟩) 4 d)/\(w3.drew.cell? ⟨tb,tq+6,none⟩=some (.int .i64 k4)/\w3.drew.cell? ⟨tb,tq+6+1,none⟩=some (.string s4)/\w3.drew.cell? ⟨tb,tq+6+2,none⟩=some (.int .i64 n4)/\w3.drew.cell? ⟨tb,tq+6+3,none⟩=some (.slice A4 hC.length c4)/\w3.drew.cell? ⟨tb,tq+6+4,none⟩=some (.slice B4 hB.length d4)/\w3.drew.cell? ⟨tb,tq+6+5,none⟩=some (.slice C4 hD.length e4))/\w3.drew.cell? ⟨g,0,none⟩=some (.map (some mb))):=Hd (aC _ (hH.o.then (Below.refl _ _).drew) (.inl kJ));have bE:Z9 (w5.cell? ⟨w.heap.size,0,none⟩=some (.pointer (some ⟨g,0,none⟩))/\w5.cell? ⟨c2,0,none⟩=some (.pointer (some ⟨bp,op,none⟩))/\w5.cell? ⟨bp,op+1,none⟩=some (.string s)/\w5.cell? ⟨bp,op+2,none⟩=some (.int .i64 1)/\w5.cell? ⟨bp,op+3,none⟩=some (.slice (some ⟨tb,tq,none⟩) 4 d)/\(w5.cell? ⟨tb,tq+6,none⟩=some (.int .i64 k4)/\w5.cell? ⟨tb,tq+6+1,none⟩=some (.string s4)/\w5.cell? ⟨tb,tq+6+2,none⟩=some (.int .i64 n4)/\w5.cell? ⟨tb,tq+6+3,none⟩=some (.slice A4 hC.length c4)/\w5.cell? ⟨tb,tq+6+4,none⟩=some (.slice B4 hB.length d4)/\w5.cell? ⟨tb,tq+6+5,none⟩=some (.slice C4 hD.length e4))/\w5.cell? ⟨g,0,none⟩=some (.map (some mb))):=Hd (aC _ hF.o (.inr hY.o));clear aV aW bQ kJ lk kK aT aM aC;go_upto_region 5 with fail
 clear y2 y4;refine wp_region_noPanic ?_;refine wp_region_held_drew (S:=(fun w'=>w'.cell? ⟨w.heap.size,0,none⟩=some (.pointer (some ⟨g,0,none⟩))/\w'.cell? ⟨c2,0,none⟩=some (.pointer (some ⟨bp,op,none⟩))/\w'.cell? ⟨bp,op+1,none⟩=some (.string s)/\w'.cell? ⟨bp,op+2,none⟩=some (.int .i64 1)/\w'.cell? ⟨bp,op+3,none⟩=some (.slice (some ⟨tb,tq,none⟩) 4 d)/\(w'.cell? ⟨tb,tq+6,none⟩=some (.int .i64 k4)/\w'.cell? ⟨tb,tq+6+1,none⟩=some (.string s4)/\w'.cell? ⟨tb,tq+6+2,none⟩=some (.int .i64 n4)/\w'.cell? ⟨tb,tq+6+3,none⟩=some (.slice A4 hC.length c4)/\w'.cell? ⟨tb,tq+6+4,none⟩=some (.slice B4 hB.length d4)/\w'.cell? ⟨tb,tq+6+5,none⟩=some (.slice C4 hD.length e4))/\w'.cell? ⟨g,0,none⟩=some (.map (some mb)))) (by kernel_rfl) aE.o (fun hA=>?_);refine Ab.s [0,1,2,3,4,5,6,7] ?_
 iterate 8 (refine Ab.k (so rfl) hA ?_;try simp only[Act.put,Bd,Be,Bf])
 refine Ab.d ?_;have lk:=LK.o;refine wpAnyH_ready (rs:=[8]) (by kernel_rfl) (by simp) ?_;refine AllReadyH.cons (sd (some 33) rfl) (fun Kx hK=>?_) AllReadyH.nil;go_simp;clear lk;refine hK.out _ _ (aE.o) (fun hA=>?_);clear hK Kx;try simp only[Act.put,Bd,Be,Bf]
 refine Ab.s [9] ?_;refine Ab.k (so rfl) hA ?_;try simp only[Act.put,Bd,Be,Bf]
 refine Ab.d ?_;have kK:=bJ.o;refine wpAnyH_ready (rs:=[10]) (by kernel_rfl) (by simp) ?_;refine AllReadyH.cons (sd none rfl) (fun Kx hK=>?_) AllReadyH.nil;go_simp;clear kK;refine hK.out _ _ (bE.o) (fun hA=>?_);clear hK Kx;try simp only[Act.put,Bd,Be,Bf]
 refine wpAnyH_done (by kernel_rfl) ?_ _;refine NoPanic.normal ?_;clear hA aZ vr3;have aH:=Hd (hV.o.2.2 K U g mb mf w5.drew tb (tq+6) _ _ (kN.o _ (hF.o.then (Below.refl _ _).drew)) kB.o (kF.o _ (hF.o.then (Below.refl _ _).drew)) (hY.o.later (Below.refl _ _).drew) hV.o.1 hT.o kR.o hV.o.2.1.1 hV.o.2.1.2);go_upto_region 7 with fail
 refine wp_region_noPanic ?_;refine wp_region_held_drew (S:=(fun w'=>w'.cell? ⟨w.heap.size,0,none⟩=some (.pointer (some ⟨g,0,none⟩))/\w'.cell? ⟨c2,0,none⟩=some (.pointer (some ⟨bp,op,none⟩))/\w'.cell? ⟨bp,op+1,none⟩=some (.string s)/\w'.cell? ⟨bp,op+2,none⟩=some (.int .i64 1)/\w'.cell? ⟨bp,op+3,none⟩=some (.slice (some ⟨tb,tq,none⟩) 4 d)/\(w'.cell? ⟨tb,tq+6,none⟩=some (.int .i64 k4)/\w'.cell? ⟨tb,tq+6+1,none⟩=some (.string s4)/\w'.cell? ⟨tb,tq+6+2,none⟩=some (.int .i64 n4)/\w'.cell? ⟨tb,tq+6+3,none⟩=some (.slice A4 hC.length c4)/\w'.cell? ⟨tb,tq+6+4,none⟩=some (.slice B4 hB.length d4)/\w'.cell? ⟨tb,tq+6+5,none⟩=some (.slice C4 hD.length e4)))) (by kernel_rfl) (HC.o _ (hF.o.then (Below.refl _ _).drew)) (fun hA=>?_);refine Ab.s [0,1,2,3,4,5] ?_
 iterate 6 (refine Ab.k (so rfl) hA ?_;try simp only[Act.put,Bd,Be,Bf])
 refine Ab.d ?_;refine wpAnyH_ready (rs:=[6]) (by kernel_rfl) (by simp) ?_;refine AllReadyH.cons (sd (some 42) rfl) (fun Kx hK=>?_) AllReadyH.nil;go_simp;refine aH.o.mono ?_;rintro e w7 ⟨rfl,hs,hb⟩;have hZ:=Hd hs;have hJ:Z9 (Ad (fun x=>x=mb\/x=mf) w2 w7):=Hd ((hF.o.then (Below.refl w5.heap.size w5).drew).trans hb fun x h=>.inl h);clear hs hb aH;go_wp2_with fail;refine hK.out _ _ (HC.o _ hJ.o) (fun hA=>?_);clear hK Kx;try simp only[Act.put,Bd,Be,Bf]
 refine wpAnyH_done (by kernel_rfl) ?_ _;refine NoPanic.normal ?_;clear hA;have KI:=Hd (bF.o K w7.drew (.mk k4 s4 n4 hC hB hD) _ (bI.o _ (hJ.o.then (Below.refl _ _).drew)) hV.o.2.1.1 (by have h:=aF.o;omega));go_upto_region 8 with fail
 refine wp_region_noPanic ?_;refine wp_region_held_drew (S:=(fun w'=>w'.cell? ⟨w.heap.size,0,none⟩=some (.pointer (some ⟨g,0,none⟩))/\w'.cell? ⟨c2,0,none⟩=some (.pointer (some ⟨bp,op,none⟩))/\w'.cell? ⟨bp,op+1,none⟩=some (.string s)/\w'.cell? ⟨bp,op+2,none⟩=some (.int .i64 1)/\w'.cell? ⟨bp,op+3,none⟩=some (.slice (some ⟨tb,tq,none⟩) 4 d)/\(w'.cell? ⟨tb,tq+6,none⟩=some (.int .i64 k4)/\w'.cell? ⟨tb,tq+6+1,none⟩=some (.string s4)/\w'.cell? ⟨tb,tq+6+2,none⟩=some (.int .i64 n4)/\w'.cell? ⟨tb,tq+6+3,none⟩=some (.slice A4 hC.length c4)/\w'.cell? ⟨tb,tq+6+4,none⟩=some (.slice B4 hB.length d4)/\w'.cell? ⟨tb,tq+6+5,none⟩=some (.slice C4 hD.length e4)))) (by kernel_rfl) (HC.o _ (hJ.o.then (Below.refl _ _).drew)) (fun hA=>?_);refine Ab.s [0,1,2,3,4,5,6,8,9,10,11,12] ?_
 iterate 12 (refine Ab.k (so rfl) hA ?_;try simp only[Act.put,Bd,Be,Bf])
 refine Ab.d ?_;refine wpAnyH_ready (rs:=[7]) (by kernel_rfl) (by simp) ?_;refine AllReadyH.cons (sd (some 50) rfl) (fun Kx hK=>?_) AllReadyH.nil;go_simp;refine KI.o.mono ?_;rintro e w8 ⟨l9,A9,c9,rfl,aR,hQ,kC,aP,aN⟩;have hP:Below w7.heap.size w7 w8:=(Below.refl w7.heap.size w7).drew.trans aN;have hL:Z9 (Ad (fun x=>x=mb\/x=mf) w2 w8):=Hd (hJ.o.then hP);have aD:∀x,(fun x=>c x+(if s=x then 1 else 0)) x+cI l9 x<=9000000000000000000 - Am p2*1000000000000002/\Am p2*1000000000000002<=9000000000000000000:=fun x=>by
  have h1:=Jb9 (kT.o x) (Nat.le_trans (Uj l9 x) (Nat.le_trans kC aF.o.1)) (by decide);have h2:(if s=x then 1 else 0)<=1:=by split <;> omega
  simp only;omega
 have aJ:=Hd (Ep (cN:=c9) (ps:=[p2]) (B:=9000000000000000000 - Am p2*1000000000000002) aR (fun b o e=>by have h1:=aP b o e;have h2:=hZ.o.lt;have h3:w7.drew.heap.size=w7.heap.size:=rfl;omega) (Bk.one (c:=d - 2) (kO.o _ hL.o) bG.o (by have:=HD.o;omega)) (kF.o _ hL.o) (hZ.o.later hP) (fun x hx=>bH.o x ((hQ x).1 hx)) hT.o (fun x=>(aD x).1) (Nat.sub_le _ _) (fun p hp=>by
  obtain rfl:p=p2:=(by simpa using hp);refine⟨kU.o.1,kU.o.2.1,?_⟩;have h:=(aD s).2;omega) (fun p hp=>by obtain rfl:p=p2:=(by simpa using hp);exact kU.o.2.2))
 have kV:=Hd hQ;clear aR hQ kC aP aN hP aD KI;go_wp2_with fail;refine hK.out _ _ (HC.o _ hL.o) (fun hA=>?_);clear hK Kx;try simp only[Act.put,Bd,Be,Bf]
 refine wpAnyH_ready (rs:=[13]) (by kernel_rfl) (by simp) ?_;refine AllReadyH.cons (sd (some 56) rfl) (fun Kx hK=>?_) AllReadyH.nil;go_simp;refine aJ.o.mono ?_;rintro e w9 ⟨rfl,aU,aO⟩;have kY:=Hd aU;have hG:Z9 (Ad (fun x=>x=mb\/x=mf) w2 w9):=Hd (hL.o.trans aO fun x h=>.inl h);clear aU aO aJ;go_wp2_with fail;refine hK.out _ _ (HC.o _ hG.o) (fun hA=>?_);clear hK Kx;try simp only[Act.put,Bd,Be,Bf]
 refine wpAnyH_done (by kernel_rfl) ?_ _;refine NoPanic.normal ?_;clear hA;have aI:=Hd (kE.o.2.2 K U g mb mf w9.drew tb (tq+18) _ _ (kP.o _ (hG.o.then (Below.refl _ _).drew)) kB.o (kF.o _ (hG.o.then (Below.refl _ _).drew)) (kY.o.later (Below.refl _ _).drew) kE.o.1 hT.o kS.o kE.o.2.1.1 kE.o.2.1.2);go_upto_region 9 with fail
 refine wp_region_noPanic ?_;refine wp_region_held_drew (S:=(fun w'=>w'.cell? ⟨w.heap.size,0,none⟩=some (.pointer (some ⟨g,0,none⟩))/\w'.cell? ⟨c2,0,none⟩=some (.pointer (some ⟨bp,op,none⟩))/\w'.cell? ⟨bp,op+1,none⟩=some (.string s)/\w'.cell? ⟨bp,op+2,none⟩=some (.int .i64 1)/\w'.cell? ⟨bp,op+3,none⟩=some (.slice (some ⟨tb,tq,none⟩) 4 d)/\(w'.cell? ⟨tb,tq+6,none⟩=some (.int .i64 k4)/\w'.cell? ⟨tb,tq+6+1,none⟩=some (.string s4)/\w'.cell? ⟨tb,tq+6+2,none⟩=some (.int .i64 n4)/\w'.cell? ⟨tb,tq+6+3,none⟩=some (.slice A4 hC.length c4)/\w'.cell? ⟨tb,tq+6+4,none⟩=some (.slice B4 hB.length d4)/\w'.cell? ⟨tb,tq+6+5,none⟩=some (.slice C4 hD.length e4)))) (by kernel_rfl) (HC.o _ (hG.o.then (Below.refl _ _).drew)) (fun hA=>?_);refine Ab.s [0,1,2,3,4,5] ?_
 iterate 6 (refine Ab.k (so rfl) hA ?_;try simp only[Act.put,Bd,Be,Bf])
 refine Ab.d ?_;refine wpAnyH_ready (rs:=[6]) (by kernel_rfl) (by simp) ?_;refine AllReadyH.cons (sd (some 63) rfl) (fun Kx hK=>?_) AllReadyH.nil;go_simp;refine aI.o.mono ?_;rintro e wA ⟨rfl,hs,hb⟩;have kA:=Hd hs;have hN:Z9 (Ad (fun x=>x=mb\/x=mf) w2 wA):=Hd ((hG.o.then (Below.refl w9.heap.size w9).drew).trans hb fun x h=>.inl h);clear hs hb aI;go_wp2_with fail;refine hK.out _ _ (HC.o _ hN.o) (fun hA=>?_);clear hK Kx;try simp only[Act.put,Bd,Be,Bf]
 refine wpAnyH_done (by kernel_rfl) ?_ _;refine NoPanic.normal ?_;clear hA;have bD:Z9 (Fp U wA g mb mf (fun x=>c x+(if s=x then 1 else 0)) (fun x=>S x || (decide (c x=0) && Bp x (.mk 21 s 1 [p0,.mk k4 s4 n4 hC hB hD,p2,p3] [] [])))):=Hd (kA.o.same (fun _=>rfl) fun x=>by
  have hm:=Ol kV.o x;rw[Gl,Lr,hm];try dsimp only
  have e1:decide ((c x+if s=x then 1 else 0)=0)=(decide (c x=0) && !decide (s=x)):=by
   by_cases e:s=x <;> by_cases e2:c x=0 <;> simp[e,e2]
  rw[e1];generalize decide (c x=0)=d1;generalize decide (s=x)=d2;generalize Dc (Bi (.mk k4 s4 n4 hC hB hD)) x=d3;generalize Bp x p0=d4;generalize Bp x (.mk k4 s4 n4 hC hB hD)=d5;generalize Bp x p2=d6;generalize Bp x p3=d7
  cases S x <;> cases d1 <;> cases d2 <;> cases d3 <;> cases d4 <;> cases d5 <;> cases d6 <;> cases d7 <;> rfl)
 clear kA;go_wp2_with fail;obtain⟨a1,a2,a3,-,-,-⟩:=HC.o wA hN.o;refine leaves_cons (f:=210) (args:=#[.pointer (some ⟨w.heap.size,0,none⟩),.pointer (some ⟨c2,0,none⟩)]) (by simp) (by simp[go_sem]) ?_;refine (V3 .returning wA a1 a2 a3 bD.o hT.o kG.o (by have h:=(Jb9 (l:=0) (kT.o s) (Nat.zero_le _) (by decide)).1;omega) hW.o).mono ?_;rintro e u' wB ⟨rfl,rfl,bO,bL⟩;exact⟨.tuple #[],by simp[results,Tryz.results186,go_sem],rfl,bO,(LIFT.o _ hN.o).trans bL fun x h=>.inl h⟩
theorem Lu {α:Type}{l:List α}{L:List (List α)}(h:l∈L):l.length<=L.flatten.length:=by
 induction L with
 | nil=>cases h
 | cons a L ih=>
  rw[List.flatten_cons,List.length_append];rcases List.mem_cons.1 h with rfl|h
  ·omega
  ·have:=ih h;omega
theorem Jd3 {k:Int}{t:Z8}{n:Int}{ps:List Ty}{fs:Bx}{vs:Bt}{p:Ty}(h:p∈ps):1+vs.length+(Cu ps).length+(Ed p).length<=(Ed (.mk k t n ps fs vs)).length:=by
 rw[D7];have:=Lu (List.mem_map_of_mem (f:=Ed) h);simp only[List.length_cons,List.length_append,List.length_map];omega
theorem Jd2 {k:Int}{t:Z8}{n:Int}{ps:List Ty}{fs:Bx}{vs:Bt}{f:Z8×Int×Ty}(h:f∈fs):1+vs.length+(Ed f.2.2).length<=(Ed (.mk k t n ps fs vs)).length:=by
 rw[D7];have:=Lu (List.mem_map_of_mem (f:=fun f:Z8×Int×Ty=>Ed f.2.2) h);simp only[List.length_cons,List.length_append,List.length_map];omega
theorem Jd1 {k:Int}{t:Z8}{n:Int}{ps:List Ty}{fs:Bx}{vs:Bt}{v:Z8×List Ty}{b:Ty}(h:v∈vs) (hb:b∈v.2):1+vs.length+(Ed b).length<=(Ed (.mk k t n ps fs vs)).length:=by
 rw[D7];have h1:=Lu (List.mem_map_of_mem (f:=fun v:Z8×List Ty=>(v.2.map Ed).flatten) h);have h2:=Lu (List.mem_map_of_mem (f:=Ed) hb);simp only[List.length_cons,List.length_append,List.length_map];omega
theorem Oi {x:Z8}{cut:Nat->Bool}:∀(l:List Ty) (i j:Nat) (h:i<l.length),Dn x cut j (l.take (i+1))=(Dn x cut j (l.take i) || (!cut (j+i) && Bp x (l[i]'h)))
 | a :: l,0,j,_=>by simp[Dn]
 | a :: l,i+1,j,h=>by
  rw[List.take_succ_cons,List.take_succ_cons,Dn,Dn,Oi l i (j+1) (by simpa using h),Bool.or_assoc,show j+1+i=j+(i+1) from by omega];rfl
theorem Sr {l:Bt}{i:Nat}(h:i<l.length):Bl (l.take (i+1))=Bl (l.take i)+Au (l[i]'h).2:=by
 unfold Bl;rw[List.take_succ_eq_append_getElem h,List.map_append,List.sum_append,List.map_cons,List.map_nil,List.sum_cons,List.sum_nil,Nat.add_zero]
theorem Sq {l:Bx}{i:Nat}(h:i<l.length):Bm (l.take (i+1))=Bm (l.take i)+Am (l[i]'h).2.2:=by
 unfold Bm;rw[List.take_succ_eq_append_getElem h,List.map_append,List.sum_append,List.map_cons,List.map_nil,List.sum_cons,List.sum_nil,Nat.add_zero]
theorem Mg {l:List Ty}{i:Nat}(h:i<l.length):Au (l.take (i+1))=Au (l.take i)+Am (l[i]'h):=by
 unfold Au;rw[List.take_succ_eq_append_getElem h,List.map_append,List.sum_append,List.map_cons,List.map_nil,List.sum_cons,List.sum_nil,Nat.add_zero]
structure Nu (w0 w1:World) (v:Value) (l IN:List Z8) (Ai:Option Addr) (ci:Nat) (P:Z8->Bool) (m:Nat) (v':Value) (wr:World) (l1:List Z8):Prop where
 ex:∃N,(∀x,x∈N↔x ∉ IN/\P x=true)/\N.length<=m/\Ek w0 w1 v l N v' wr l1
 no:Gi wr IN Ai ci
 off:Lj v' Ai
theorem Nu.fr {w0 w1:World}{v:Value}{l IN:List Z8}{Ai:Option Addr}{ci:Nat}{P:Z8->Bool}{m:Nat}{v':Value}{wr:World}{l1:List Z8}(h:Nu w0 w1 v l IN Ai ci P m v' wr l1):Fr v w1 v' wr:=by
 obtain⟨N,-,-,h⟩:=h.ex;exact h.fr
theorem Nu.own {w0 w1:World}{v:Value}{l IN:List Z8}{Ai:Option Addr}{ci:Nat}{P:Z8->Bool}{m:Nat}{v':Value}{wr:World}{l1:List Z8}(h:Nu w0 w1 v l IN Ai ci P m v' wr l1):Du w0.heap.size wr v' l1/\Nl l1/\Below w0.heap.size w0 wr/\l1.length<=l.length+m/\w1.heap.size<=wr.heap.size:=by
 obtain⟨N,-,h2,h⟩:=h.ex;exact⟨h.own,h.asc,h.low,by have:=h.len;omega,h.big⟩
theorem Nu.side {w0 w1:World}{v:Value}{l IN:List Z8}{Ai:Option Addr}{ci:Nat}{P:Z8->Bool}{m:Nat}{v':Value}{wr wx:World}{l1:List Z8}(h:Nu w0 w1 v l IN Ai ci P m v' wr l1) (hl:Below w0.heap.size w0 wx) (hk:∀b,b<wr.heap.size->wx.heap[b]?=wr.heap[b]?) (hs:wr.heap.size<=wx.heap.size):Nu w0 w1 v l IN Ai ci P m v' wx l1:=by
 obtain⟨N,h1,h2,h3⟩:=h.ex;exact⟨⟨N,h1,h2,h3.side hl hk hs⟩,h.no.stay hs fun b o e=>hk b (h.no.blk b o e),h.off⟩
theorem Nu.step {w0 w1:World}{v:Value}{l IN now:List Z8}{Ai:Option Addr}{ci:Nat}{P P2:Z8->Bool}{m m2:Nat}{v' v2:Value}{wr w2:World}{l1 l2 N2:List Z8}{p:Ty}(h:Nu w0 w1 v l IN Ai ci P m v' wr l1) (hC:∀x,x∈N2↔Bp x p=true/\x ∉ now) (hl:N2.length<=Am p) (hA:Ek w0 wr v' l1 N2 v2 w2 l2) (hm:m2=m+Am p) (hB:∀x,x∈IN->x∈now) (hP:∀x,x ∉ IN->(P2 x=true↔P x=true\/(Bp x p=true/\x ∉ now))):Nu w0 w1 v l IN Ai ci P2 m2 v2 w2 l2:=by
 obtain⟨N,h1,h2,h3⟩:=h.ex;obtain⟨h4,h5⟩:=h.no.fr hA.fr hA.big h.off;refine⟨⟨N++N2,fun x=>?_,by rw[List.length_append];omega,h3.step hA⟩,h4,h5⟩;rw[List.mem_append,h1,hC]
 constructor
 ·rintro (⟨h6,h7⟩|⟨h6,h7⟩)
  ·exact⟨h6,(hP x h6).2 (.inl h7)⟩
  ·have h8:x ∉ IN:=fun e=>h7 (hB x e);exact⟨h8,(hP x h8).2 (.inr ⟨h6,h7⟩)⟩
 ·rintro⟨h6,h7⟩;rcases (hP x h6).1 h7 with h8|h8
  ·exact .inl ⟨h6,h8⟩
  ·exact .inr h8
def Sj (t:Ty):Prop:=∀(K:Nat->Prop) (w0 w:World) (cs:List Value) (v:Value) (l nt:List Z8) (An:Option Addr) (cn:Nat),Aw K w0 t cs->Below w0.heap.size w0 w->Du w0.heap.size w v l->Nl l->Gi w nt An cn->Lj v An->Aj t=true->nt.length+(Ed t).length<=10000000000->l.length+Am t<=1099511627776 ->
 Calls Tryz.prog 40 #[.agg cs.toArray,.slice An nt.length cn,v] w fun e w'=>∃v' l' N,e=.returned v'/\(∀x,x∈N↔Bp x t=true/\x ∉ nt)/\N.length<=Am t/\Ek w0 w v l N v' w' l'
theorem Iw {B:Nat}{w:World}{v:Value}{l:List Z8}{g:Nat}(h:Du B w v l) (hg:w.heap.size<=g):Lj v (some ⟨g,0,none⟩):=fun g' o e e2=>by
 injection e with e
 injection e with e _
 have:=(World.ownsRow.lt h _ e2).2;omega
theorem Zs (s:Z8) (n:Int) (ps:List Ty) (fs:Bx) (vs:Bt):Sj (.mk 16 s n ps fs vs):=by
 obtain⟨k,hk⟩:∃k:Int,k=16:=⟨_,rfl⟩;rw[<-hk];intro K w0 w cs v l nt An cn ht hb hO hA hN hS hH hU hT;obtain⟨Ap,cp,Af,cf,Av,cv,rfl,-,hL,hK,hM⟩:=ht.inv;have hlp:=hL.short;have hlf:=hK.shortF;have hlv:vs.length<=1000000000000000:=by obtain⟨_,_,r3,-⟩:=hM;exact r3.big
 obtain⟨As,c,rfl,-⟩:=hO.list (by omega);simp only[Az];obtain⟨g,hg⟩:∃g,g=w.heap.size:=⟨_,rfl⟩;obtain⟨w1,hF⟩:∃x,x=w.alloc (.cells #[.int .i64 k,.string s,.int .i64 n,.slice Ap ps.length cp,.slice Af fs.length cf,.slice Av vs.length cv] 26):=⟨_,rfl⟩;have hE:Below w.heap.size w w1:=by rw[hF];exact (Below.refl _ _).alloc (Nat.le_refl _) _
 have hW:w1.heap[g]?=some (.cells #[.int .i64 k,.string s,.int .i64 n,.slice Ap ps.length cp,.slice Af fs.length cf,.slice Av vs.length cv] 26 (0,0)):=by rw[hF,hg];exact heap_alloc_new w _
 have kE:w1.heap.size=g+1:=by rw[hF,hg];simp
 have kD:Z9 ((Value.slice As l.length c).ownBlock≠some g):=Hd fun e=>by have:=(World.ownsRow.lt hO _ e).2;omega
 have HX:Z9 (∀v2 w2,Fr (.slice As l.length c) w1 v2 w2->w2.cell? ⟨g,0,none⟩=some (.int .i64 k)/\w2.cell? ⟨g,1,none⟩=some (.string s)/\w2.cell? ⟨g,2,none⟩=some (.int .i64 n)/\w2.cell? ⟨g,3,none⟩=some (.slice Ap ps.length cp)/\w2.cell? ⟨g,4,none⟩=some (.slice Af fs.length cf)/\w2.cell? ⟨g,5,none⟩=some (.slice Av vs.length cv)):=Hd fun v2 w2 h=>by
  have e:=h.keep g (by omega) kD.o;obtain⟨x0,x1,x2,x3,x4,x5⟩:=D4 hW;exact⟨(World.cell?_of_block e).trans x0,(World.cell?_of_block e).trans x1,(World.cell?_of_block e).trans x2,(World.cell?_of_block e).trans x3,(World.cell?_of_block e).trans x4,(World.cell?_of_block e).trans x5⟩
 have hC:Z9 (Below w0.heap.size w0 w1):=Hd (hb.trans (hE.mono hb.size));have hD:Z9 (Ek w0 w1 (.slice As l.length c) l [] (.slice As l.length c) w1 l):=Hd ⟨hO.later hE,hA,fun x=>by simp,by simp,hC.o,Nat.le_refl _,Fr.refl _ _⟩;have kC:=Hd (hN.later hE);have kJ:=Hd hS;have hP:=Hd hE;have HW1:=Hd hF;have HG:=Hd hg;have kF:=Hd hU;have hX:=Hd hT;have kG:=Hd hH;have kA:=Hd hL;have hZ:=Hd hK;have kB:=Hd hM;have kH:Z9 (ps.length<=1000000000000000/\fs.length<=1000000000000000/\vs.length<=1000000000000000):=Hd ⟨hlp,hlf,hlv⟩;have hI:=fun x=>Dq x k s n ps fs vs;have hY:=Hd hI;have hQ:=Hd (Bu k s n ps fs vs);have kI:Z9 (l.length<=1099511627776):=Hd (by omega);obtain⟨l1,l2,-,-⟩:=D5 hH;have hV:ps.length=0:=Lp hH 0 (by rw[hk];rfl) (by rw[hk];rfl);obtain rfl:ps=[]:=List.eq_nil_of_length_eq_zero hV;obtain rfl:fs=[]:=List.eq_nil_of_length_eq_zero (l1 (by rw[hk];decide));obtain rfl:vs=[]:=List.eq_nil_of_length_eq_zero (l2 (by rw[hk];decide));have hR:Z9 (∀x,Bp x (.mk k s n [] [] [])=decide (s=x)):=Hd fun x=>by rw[hI,hk];simp[Gp,Jc,Dn,E9]
 have hG:=Hd (Ta (c:=cn) kC.o.ls s);have e16:(k == 16)=true:=by rw[hk];rfl
 simp only[List.length_nil]at HX HW1 kA hZ kB ⊢;subst hk;clear l1 l2 hV hH;clear ht hb hO hA hN hS hU hT hL hK hM hlp hlf hlv hg hF hE hW kE hI;by_cases hB:Dc nt s=false
 ·have KA:=Hd (Ue (s:=s) hD.o.own hD.o.asc hC.o.size (by have h1:=hX.o;have h2:=hQ.o;omega));have hJ:Z9 (s ∉ nt):=Hd fun e=>by rw[Dh.2 e]at hB;cases hB
  rw[hB]at hG;clear hB;go_enter Tryz.func40,Tryz.ntmps40;go_upto_region 1 with fail
  rw[<-HW1.o,<-HG.o];obtain⟨x0,x1,x2,x3,x4,x5⟩:=HX.o _ _ (Fr.refl _ _);go_wp2_with fail;refine hG.o.mono ?_;rintro e w2 ⟨rfl,rfl⟩;go_wp2_with fail;refine KA.o.mono ?_;rintro e w3 ⟨v3,l3,rfl,o3,a3,m3,n3,b3,f3⟩;go_wp2_with fail;go_ret
  refine⟨_,_,[s],rfl,fun x=>?_,?_,Ek.from ⟨o3,a3,fun x=>?_,n3,hC.o.trans b3,b3.size,f3⟩ hP.o⟩
  ·rw[hR.o,decide_eq_true_iff,List.mem_singleton];exact⟨fun e=>⟨e.symm,e ▸ hJ.o⟩,fun e=>e.1.symm⟩
  ·have:=hQ.o;simp only[List.length_singleton];omega
  ·rw[m3,List.mem_singleton,or_comm]
 ·have hB:Dc nt s=true:=by simpa using hB
  have hJ:Z9 (s∈nt):=Hd (Dh.1 hB);rw[hB]at hG;clear hB;go_enter Tryz.func40,Tryz.ntmps40;go_upto_region 1 with fail
  rw[<-HW1.o,<-HG.o];obtain⟨x0,x1,x2,x3,x4,x5⟩:=HX.o _ _ (Fr.refl _ _);have t0:decide ((0:Int)<((0:Nat):Int))=false:=rfl;go_wp2_with fail;refine hG.o.mono ?_;rintro e w2 ⟨rfl,rfl⟩;go_wp2_with fail
  go_loopw [7,8] (fun a b wr=>a=.slice An nt.length cn/\b=.int .i64 0/\wr=w2) (fun _ _ _=>0)
  case atStart=>exact⟨rfl,rfl,rfl⟩
  case round=>
   obtain⟨rfl,rfl,rfl⟩:=hrel;go_wp2_with fail
   go_loopw [2,9] (fun a b wx=>a=.slice As l.length c/\b=.int .i64 0/\wx=wr) (fun _ _ _=>0)
   case atStart=>exact⟨rfl,rfl,rfl⟩
   case round=>
    obtain⟨rfl,rfl,rfl⟩:=hrel;go_wp2_with fail
    go_loopw [2,11] (fun a b wx=>a=.slice As l.length c/\b=.int .i64 0/\wx=wr) (fun _ _ _=>0)
    case atStart=>exact⟨rfl,rfl,rfl⟩
    case round=>
     obtain⟨rfl,rfl,rfl⟩:=hrel;go_wp2_with fail
     go_loopw [2,15] (fun a b wx=>a=.slice As l.length c/\b=.int .i64 0/\wx=wr) (fun _ _ _=>0)
     case atStart=>exact⟨rfl,rfl,rfl⟩
     case round=>
      obtain⟨rfl,rfl,rfl⟩:=hrel;go_wp2_with fail;go_ret
      refine⟨_,_,[],rfl,fun x=>?_,Nat.zero_le _,Ek.from hD.o hP.o⟩;rw[hR.o,decide_eq_true_iff];exact⟨fun h=>(by cases h),fun h=>absurd (h.1 ▸ hJ.o) h.2⟩
