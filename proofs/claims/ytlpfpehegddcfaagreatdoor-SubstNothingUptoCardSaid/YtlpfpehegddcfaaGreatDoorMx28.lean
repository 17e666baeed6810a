import Derived.Test.YtlpfpehegddcfaaGreatDoorMx27
namespace Go.Proofs.YtlpfpehegddcfaaGreatDoor
set_option maxRecDepth 100000
set_option maxHeartbeats 64000000
open Go.RowKit
theorem Kp {x:Z8}{u:Ty}{cut:Nat->Bool}(h:∀i,cut i=true):∀ {l:List Ty}{j:Nat},Fk x u cut j l=l
 | [],_=>rfl
 | p :: l,j=>by rw[Fk,if_pos (h j),Kp h]
theorem Ec (x:Z8) (u:Ty) (t:Ty):Aj t=true->Bp x t=false->Bh x u t=t:=by
 refine Ty.ind (C:=fun t=>Aj t=true->Bp x t=false->Bh x u t=t) (fun k t n ps fs vs hp hf hv hB hC=>?_) t;rw[Dq,Bool.or_eq_false_iff]at hC;have hG:∀p∈ps,Bp x p=false->Bh x u p=p:=fun p hA=>hp p hA (D9 hB p hA);rw[Eu,if_neg (by rw[hC.1];decide)];by_cases hk:k=15
 ·subst hk;have e:=Ie hB rfl;have l1:=D5 hB;have e3:vs=[]:=List.eq_nil_of_length_eq_zero (l1.2.1 (by decide));subst e3;rw[if_pos (show ((15:Int) == 15)=true from rfl)];have h2:Dn x (fun i=>Cz 15 t n ps i x) 0 ps=false:=by
   have:=hC.2;simp only[E9,List.any_nil,Bool.not_false,Bool.true_and,Bool.or_eq_false_iff]at this;exact this.2.1
  have h3:∀(l:List Ty) (j:Nat),Dn x (fun i=>Cz 15 t n ps i x) j l=false->∀p∈l,Bp x p=false:=by
   intro l
   induction l with
   | nil=>intro j _ p h;cases h
   | cons a l ih=>
    intro j h p hA;rw[Dn,Bool.or_eq_false_iff]at h;rcases List.mem_cons.1 hA with rfl|hA
    ·have h4:=h.1;simpa [Cz] using h4
    ·exact ih (j+1) h.2 p hA
  rw[List.map_congr_left (g:=id) fun p hA=>hG p hA (h3 ps 0 h2 p hA),List.map_id];exact e
 ·rw[if_neg (by simpa using hk)];have hI:∀f∈fs,Aj f.2.2=true:=It (t:=.mk k t n ps fs vs) hB;have hH:=Jq hB;by_cases hi:E9 vs x=true
  ·have e2:fs=[]:=by
    refine List.eq_nil_of_length_eq_zero ((D5 hB).1 fun e=>?_);have h3:vs=[]:=List.eq_nil_of_length_eq_zero ((D5 hB).2.1 (by omega));rw[h3]at hi
    cases hi
   subst e2;have e3:(vs.map fun v=>(v.1,v.2.map fun b=>if E9 vs x=true then b else Bh x u b))=vs:=by
    refine (List.map_congr_left (g:=id) fun v _=>?_).trans (List.map_id _);simp[hi]
   rw[e3,Kp fun i=>by rw[hi];rfl];rfl
  ·have h2:=hC.2;rw[Bool.not_eq_true]at hi;simp only[hi,Bool.not_false,Bool.true_and,Bool.or_eq_false_iff]at h2;obtain⟨h4,h5,h6⟩:=h2;have e1:Fk x u (fun i=>E9 vs x || Cz k t n ps i x) 0 ps=ps:=Na hG (by simpa [hi] using h5);have e2:(fs.map fun f=>(f.1,f.2.1,Bh x u f.2.2))=fs:=by
    refine (List.map_congr_left (g:=id) fun f hE=>?_).trans (List.map_id _);have h7:Bp x f.2.2=false:=by
     rw[Bool.eq_false_iff];intro h;rw[show Jc x fs=true from List.any_eq_true.2 ⟨f,hE,h⟩]at h6
     cases h6
    rw[hf f hE (hI f hE) h7];rfl
   have e3:(vs.map fun v=>(v.1,v.2.map fun b=>if E9 vs x=true then b else Bh x u b))=vs:=by
    refine (List.map_congr_left (g:=id) fun v hF=>?_).trans (List.map_id _);have h8:(v.2.map fun b=>if E9 vs x=true then b else Bh x u b)=v.2:=by
     refine (List.map_congr_left (g:=id) fun b hD=>?_).trans (List.map_id _);have h7:Bp x b=false:=by
      rw[Bool.eq_false_iff];intro h;rw[show Gp x vs=true from List.any_eq_true.2 ⟨v,hF,List.any_eq_true.2 ⟨b,hD,h⟩⟩]at h4
      cases h4
     rw[if_neg (by rw[hi];decide),hv v hF b hD (hH v hF b hD) h7];rfl
    rw[h8];rfl
   rw[e1,e2,e3]
def Fm (x:Z8):Ty:=.mk 16 x 0 [] [] []
theorem Zp {x:Z8}{n:Int}{ps:List Ty}{fs:Bx}{vs:Bt}(h:Aj (.mk 16 x n ps fs vs)=true):n=0/\ps=[]/\fs=[]/\vs=[]:=by
 obtain⟨a,b,c,-,e⟩:=J5 (Dg h) rfl rfl rfl;exact⟨e rfl,List.eq_nil_of_length_eq_zero a,List.eq_nil_of_length_eq_zero b,List.eq_nil_of_length_eq_zero c⟩
theorem Jdo (x y:Z8):Bp y (Fm x)=decide (x=y):=by
 unfold Fm;rw[Dq];simp[Gp,Dn,Jc,E9]
theorem Jc2 (x y:Z8) (u:Ty):Bh y u (Fm x)=if x=y then u else Fm x:=by
 unfold Fm;rw[Eu];by_cases e:x=y
 ·rw[if_pos (by simp[e]),if_pos e]
 ·rw[if_neg (by simp[e]),if_neg e,if_neg (by decide)];rfl
theorem sub_self (x:Z8) (t:Ty):Aj t=true->Bh x (Fm x) t=t:=by
 refine Ty.ind (C:=fun t=>Aj t=true->Bh x (Fm x) t=t) (fun k t n ps fs vs hp hf hv hA=>?_) t;rw[Eu];by_cases h1:(k == 16 && decide (t=x))=true
 ·rw[if_pos h1];rw[Bool.and_eq_true,beq_iff_eq,decide_eq_true_eq]at h1;obtain⟨rfl,rfl⟩:=h1;obtain⟨rfl,rfl,rfl,rfl⟩:=Zp hA;rfl
 ·rw[if_neg h1];have hD:∀p∈ps,Bh x (Fm x) p=p:=fun p hC=>hp p hC (D9 hA p hC);by_cases h2:(k == 15)=true
  ·rw[if_pos h2];rw[beq_iff_eq]at h2;subst h2;rw[List.map_congr_left (g:=id) hD,List.map_id];exact Ie hA rfl
  ·rw[if_neg h2];have e1:∀(l:List Ty) (j:Nat) (cut:Nat->Bool),(∀p∈l,Bh x (Fm x) p=p)->Fk x (Fm x) cut j l=l:=by
    intro l
    induction l with
    | nil=>intro _ _ _;rfl
    | cons a l ih=>
     intro j cut h;rw[Fk,ih (j+1) cut fun p hp=>h p (List.mem_cons_of_mem _ hp),h a List.mem_cons_self];simp
   rw[e1 ps 0 _ hD];have e2:(fs.map fun f=>(f.1,f.2.1,Bh x (Fm x) f.2.2))=fs:=(List.map_congr_left (g:=id) fun f hB=>by rw[hf f hB (It (t:=.mk k t n ps fs vs) hA f hB)];rfl).trans (List.map_id _);have e3:(vs.map fun v=>(v.1,v.2.map fun b=>if E9 vs x=true then b else Bh x (Fm x) b))=vs:=(List.map_congr_left (g:=id) fun v hE=>by
    rw[List.map_congr_left (g:=id) fun b hb=>by rw[hv v hE b hb (Jq hA v hE b hb)];simp,List.map_id];rfl).trans (List.map_id _)
   rw[e2,e3]
theorem Oh {x:Z8}(h:B6 x=true):Aj (Fm x)=true:=by
 unfold Fm;rw[Ay,show Ak 16=⟨true,false,false,false,0,0,true⟩ from rfl];unfold Ao Bs;simp[h]
theorem Jdk (hI:L2) {K:Nat->Prop}{U:List Z8}{g mb mf:Nat}{w:World}{bp op tb tq d:Nat}{c:Z8->Nat}{S:Z8->Bool}{s:Z8}{n:Int}{p0 p2 p3:Ty}{k4:Int}{s4:Z8}{n4:Int}{hC:List Ty}{hB:Bx}{hD:Bt}(aJ:n≠1)
  (hX:∀wx,Ad (fun x=>x=mb\/x=mf) w wx->wx.cell? ⟨bp,op+1,none⟩=some (.string s)/\wx.cell? ⟨bp,op+2,none⟩=some (.int .i64 n)/\wx.cell? ⟨bp,op+3,none⟩=some (.slice (some ⟨tb,tq,none⟩) 4 d)) (hR:∀wx,Ad (fun x=>x=mb\/x=mf) w wx->De K wx p0 tb tq/\De K wx (.mk k4 s4 n4 hC hB hD) tb (tq+6)/\De K wx p2 tb (tq+12)/\De K wx p3 tb (tq+18)) (kT:K tb) (hd:4<=d) (aY:bp≠mb/\bp≠mf)
  (hK:∀x,K x->x<w.heap.size/\x≠mb/\x≠mf) (hS:Fp U w g mb mf c S) (hs:s∈U/\s.size<=maxLen) (aD:U.length<maxLen) (aC:∀x∈Bi (.mk k4 s4 n4 hC hB hD),x∈U/\x.size<=maxLen) (aK:Am (.mk k4 s4 n4 hC hB hD)<=1000000) (hc:∀x,c x+(1+(Am p0+(Am (.mk k4 s4 n4 hC hB hD)+(Am p2+Am p3))))*1000000000000002<=9000000000000000000)
  (i0:(∀x∈Ed p0,x∈U)/\(Aj p0=true/\Dk p0=true)/\L6 p0) (i1:(∀x∈Ed (.mk k4 s4 n4 hC hB hD),x∈U)/\(Aj (.mk k4 s4 n4 hC hB hD)=true/\Dk (.mk k4 s4 n4 hC hB hD)=true)/\L6 (.mk k4 s4 n4 hC hB hD)) (i2:(∀x∈Ed p2,x∈U)/\(Aj p2=true/\Dk p2=true)/\L6 p2) (i3:(∀x∈Ed p3,x∈U)/\(Aj p3=true/\Dk p3=true)/\L6 p3) :
  Calls Tryz.prog 186 #[.pointer (some ⟨g,0,none⟩),.pointer (some ⟨bp,op,none⟩)] w (I2 U g mb mf w c S fun x=>Bp x (.mk 21 s n [p0,.mk k4 s4 n4 hC hB hD,p2,p3] [] [])):=by
 have f1:(n == 1)=false:=beq_eq_false_iff_ne.2 aJ;have F1:=Hd f1;have bC:∀(fn:Fn) (first cap:Array Value) (w:World),(Instr.makeFunc fn first cap).run Tryz.prog w=.ok (.func fn first cap) w:=fun _ _ _ _=>rfl;obtain⟨es,hL,kF⟩:=(hR w (Ad.refl _ _)).2.1;obtain⟨A4,c4,B4,d4,C4,e4,rfl,-⟩:=kF.inv;simp only[Az]at hL kF;obtain⟨c2,kV⟩:∃x,x=w.heap.size+1:=⟨_,rfl⟩;obtain⟨w2,kG⟩:∃x,x=(w.alloc (.cells #[.pointer (some ⟨g,0,none⟩)] 184)).alloc (.cells #[.pointer (some ⟨bp,op,none⟩)] 72):=⟨_,rfl⟩;have kU:Below w.heap.size w (w.alloc (.cells #[.pointer (some ⟨g,0,none⟩)] 184)):=(Below.refl _ _).alloc (Nat.le_refl _) _;have hM:Below (w.alloc (.cells #[.pointer (some ⟨g,0,none⟩)] 184)).heap.size (w.alloc (.cells #[.pointer (some ⟨g,0,none⟩)] 184)) w2:=by rw[kG];exact (Below.refl _ _).alloc (Nat.le_refl _) _
 have kE:Below w.heap.size w w2:=kU.trans (hM.mono kU.size);have aM:w2.heap[w.heap.size]?=some (.cells #[.pointer (some ⟨g,0,none⟩)] 184 (0,0)):=Bj hM (by simp) (heap_alloc_new w _);have aN:w2.heap[c2]?=some (.cells #[.pointer (some ⟨bp,op,none⟩)] 72 (0,0)):=by
  have h:=heap_alloc_new (w.alloc (.cells #[.pointer (some ⟨g,0,none⟩)] 184)) (.cells #[.pointer (some ⟨bp,op,none⟩)] 72);rw[kG,kV];simpa using h
 have aZ:=hS.lt;have kC:Z9 ((w.heap.size≠mb/\w.heap.size≠mf)/\(c2≠mb/\c2≠mf)/\bp≠mb/\bp≠mf):=Hd (by omega);have LIFT:Z9 (∀wx,Ad (fun x=>x=mb\/x=mf) w2 wx->Ad (fun x=>x=mb\/x=mf) w wx):=Hd fun wx hx=>Ad.from kE hx;have hW:Z9 (tb≠mb/\tb≠mf):=Hd (hK tb kT).2;have aH:∀x,K x->¬ (x=mb\/x=mf)/\K x:=fun x hx=>⟨fun e=>e.elim (hK x hx).2.1 (hK x hx).2.2,hx⟩;have aW:Z9 (∀wx,Ad (fun x=>x=mb\/x=mf) w2 wx->Aw K wx (.mk k4 s4 n4 hC hB hD) [.int .i64 k4,.string s4,.int .i64 n4,.slice A4 hC.length c4,.slice B4 hB.length d4,.slice C4 hD.length e4]):=Hd fun wx hx=>kF.but (LIFT.o wx hx) aH;have HC:Z9 (∀wx,Ad (fun x=>x=mb\/x=mf) w2 wx->wx.cell? ⟨w.heap.size,0,none⟩=some (.pointer (some ⟨g,0,none⟩))/\wx.cell? ⟨c2,0,none⟩=some (.pointer (some ⟨bp,op,none⟩))/\wx.cell? ⟨bp,op+1,none⟩=some (.string s)/\wx.cell? ⟨bp,op+2,none⟩=some (.int .i64 n)/\wx.cell? ⟨bp,op+3,none⟩=some (.slice (some ⟨tb,tq,none⟩) 4 d)/\(wx.cell? ⟨tb,tq+6,none⟩=some (.int .i64 k4)/\wx.cell? ⟨tb,tq+6+1,none⟩=some (.string s4)/\wx.cell? ⟨tb,tq+6+2,none⟩=some (.int .i64 n4)/\wx.cell? ⟨tb,tq+6+3,none⟩=some (.slice A4 hC.length c4)/\wx.cell? ⟨tb,tq+6+4,none⟩=some (.slice B4 hB.length d4)/\wx.cell? ⟨tb,tq+6+5,none⟩=some (.slice C4 hD.length e4))):=Hd fun wx hx=>by
  obtain⟨a1,a2,a3⟩:=hX wx (LIFT.o wx hx);have hP:¬ (tb=mb\/tb=mf):=fun e=>e.elim hW.o.1 hW.o.2;have hl:=LIFT.o wx hx;exact⟨by rw[Ch (hx.up (fun e=>e.elim kC.o.1.1 kC.o.1.2) aM)];rfl,by rw[Ch (hx.up (fun e=>e.elim kC.o.2.1.1 kC.o.2.1.2) aN)];rfl,a1,a2,a3,hl.cell hP (hL 0 _ rfl),hl.cell hP (hL 1 _ rfl),hl.cell hP (hL 2 _ rfl),hl.cell hP (hL 3 _ rfl),hl.cell hP (hL 4 _ rfl),hl.cell hP (hL 5 _ rfl)⟩
 have kB:Z9 (∀wx,Ad (fun x=>x=mb\/x=mf) w2 wx->∀x,K x->x<wx.heap.size/\x≠mb/\x≠mf):=Hd fun wx hx x h=>⟨Nat.lt_of_lt_of_le (hK x h).1 (LIFT.o wx hx).size,(hK x h).2⟩;have kH:Z9 (∀wx,Ad (fun x=>x=mb\/x=mf) w2 wx->De K wx p0 tb tq):=Hd fun wx hx=>(hR wx (LIFT.o wx hx)).1;have kI:Z9 (∀wx,Ad (fun x=>x=mb\/x=mf) w2 wx->De K wx (.mk k4 s4 n4 hC hB hD) tb (tq+6)):=Hd fun wx hx=>(hR wx (LIFT.o wx hx)).2.1;have kJ:Z9 (∀wx,Ad (fun x=>x=mb\/x=mf) w2 wx->De K wx p2 tb (tq+12)):=Hd fun wx hx=>(hR wx (LIFT.o wx hx)).2.2.1;have kK:Z9 (∀wx,Ad (fun x=>x=mb\/x=mf) w2 wx->De K wx p3 tb (tq+18)):=Hd fun wx hx=>(hR wx (LIFT.o wx hx)).2.2.2;have hZ:=Hd i0;have hT:=Hd i1;have kO:=Hd i2;have kA:=Hd i3;have aT:=Hd hI;have kD:=Hd aD;have bA:=Hd hs;have aV:=Hd aC;have aU:=Hd kT;have HD:=Hd hd;have aR:=Hd hc;have kX:Z9 ((Bi (.mk k4 s4 n4 hC hB hD)).length<=Am (.mk k4 s4 n4 hC hB hD)/\Am (.mk k4 s4 n4 hC hB hD)<=1000000):=Hd ⟨Er _,aK⟩;have kL:Z9 (∀x,c x+Am p0*1000000000000002<=9000000000000000000):=Hd fun x=>Rs (b:=0) (hc x) (by omega) (by omega) (by decide);have kM:Z9 (∀x,c x+Am (.mk k4 s4 n4 hC hB hD)*1000000000000002<=9000000000000000000):=Hd fun x=>Rs (b:=0) (hc x) (by omega) (by omega) (by decide);have aQ:Z9 (∀x,c x+Am p2*1000000000000002<=9000000000000000000):=Hd fun x=>Rs (b:=0) (hc x) (by omega) (by omega) (by decide);have kN:Z9 (∀x,c x+Am p3*1000000000000002<=9000000000000000000):=Hd fun x=>Rs (b:=0) (hc x) (by omega) (by omega) (by decide);have kQ:=Hd (hS.later kE);have hF:Z9 (Ad (fun x=>x=mb\/x=mf) w2 w2):=Hd (Ad.refl _ _);have aX:=Hd kG;have aP:=Hd kV;have aO:=Hd kE;have j1:(0:Int)<4:=by decide
 have j2:(1:Int)<4:=by decide
 have j3:(3:Int)<4:=by decide
 have bB:¬ d=2:=by omega
 have j4:(3:Int)<=(d:Int):=by omega
 clear hX hR kT hd aY hK hS hs aD aC aK hc i0 i1 i2 i3 hI aJ hL kF kV kG kU hM kE aM aN aZ aH
 go_enter_defers Tryz.func186,Tryz.ntmps186
 go_upto_region 1 with fail
 rw[<-aX.o,<-aP.o];obtain⟨-,y2,-,-,y5,-⟩:=HC.o w2 hF.o;have kY:=Hd (hZ.o.2.2 K U g mb mf w2.drew tb (tq) _ _ (kH.o _ (hF.o.then (Below.refl _ _).drew)) hW.o (kB.o _ (hF.o.then (Below.refl _ _).drew)) (kQ.o.later (Below.refl _ _).drew) hZ.o.1 kD.o kL.o hZ.o.2.1.1 hZ.o.2.1.2);go_upto_region 3 with fail
 clear y2 y5;refine wp_region_noPanic ?_;refine wp_region_held_drew (S:=(fun w'=>w'.cell? ⟨w.heap.size,0,none⟩=some (.pointer (some ⟨g,0,none⟩))/\w'.cell? ⟨c2,0,none⟩=some (.pointer (some ⟨bp,op,none⟩))/\w'.cell? ⟨bp,op+1,none⟩=some (.string s)/\w'.cell? ⟨bp,op+2,none⟩=some (.int .i64 n)/\w'.cell? ⟨bp,op+3,none⟩=some (.slice (some ⟨tb,tq,none⟩) 4 d)/\(w'.cell? ⟨tb,tq+6,none⟩=some (.int .i64 k4)/\w'.cell? ⟨tb,tq+6+1,none⟩=some (.string s4)/\w'.cell? ⟨tb,tq+6+2,none⟩=some (.int .i64 n4)/\w'.cell? ⟨tb,tq+6+3,none⟩=some (.slice A4 hC.length c4)/\w'.cell? ⟨tb,tq+6+4,none⟩=some (.slice B4 hB.length d4)/\w'.cell? ⟨tb,tq+6+5,none⟩=some (.slice C4 hD.length e4)))) (by kernel_rfl) (HC.o _ (hF.o.then (Below.refl _ _).drew)) (fun hA=>?_);refine Ab.s [0,1,2,3,4,5] ?_
 iterate 6 (refine Ab.k (so rfl) hA ?_;try simp only[Act.put,Bd,Be,Bf])
 refine Ab.d ?_;refine wpAnyH_ready (rs:=[6]) (by kernel_rfl) (by simp) ?_;refine AllReadyH.cons (sd (some 19) rfl) (fun Kx hK=>?_) AllReadyH.nil;go_simp;refine kY.o.mono ?_;rintro e w3 ⟨rfl,hs,hb⟩;have kR:=Hd hs;have hE:Z9 (Ad (fun x=>x=mb\/x=mf) w2 w3):=Hd ((hF.o.then (Below.refl w2.heap.size w2).drew).trans hb fun x h=>.inl h);clear hs hb kY;go_wp2_with fail;refine hK.out _ _ (HC.o _ hE.o) (fun hA=>?_);clear hK Kx;try simp only[Act.put,Bd,Be,Bf]
 refine wpAnyH_done (by kernel_rfl) ?_ _;refine NoPanic.normal ?_;clear hA;obtain⟨-,y2,-,y4,-,-⟩:=HC.o w3 hE.o;have f1:=F1.o;have kZ:=Hd (hT.o.2.2 K U g mb mf w3.drew tb (tq+6) _ _ (kI.o _ (hE.o.then (Below.refl _ _).drew)) hW.o (kB.o _ (hE.o.then (Below.refl _ _).drew)) (kR.o.later (Below.refl _ _).drew) hT.o.1 kD.o kM.o hT.o.2.1.1 hT.o.2.1.2);go_upto_region 7 with fail
 clear y2 y4 f1;refine wp_region_noPanic ?_;refine wp_region_held_drew (S:=(fun w'=>w'.cell? ⟨w.heap.size,0,none⟩=some (.pointer (some ⟨g,0,none⟩))/\w'.cell? ⟨c2,0,none⟩=some (.pointer (some ⟨bp,op,none⟩))/\w'.cell? ⟨bp,op+1,none⟩=some (.string s)/\w'.cell? ⟨bp,op+2,none⟩=some (.int .i64 n)/\w'.cell? ⟨bp,op+3,none⟩=some (.slice (some ⟨tb,tq,none⟩) 4 d)/\(w'.cell? ⟨tb,tq+6,none⟩=some (.int .i64 k4)/\w'.cell? ⟨tb,tq+6+1,none⟩=some (.string s4)/\w'.cell? ⟨tb,tq+6+2,none⟩=some (.int .i64 n4)/\w'.cell? ⟨tb,tq+6+3,none⟩=some (.slice A4 hC.length c4)/\w'.cell? ⟨tb,tq+6+4,none⟩=some (.slice B4 hB.length d4)/\w'.cell? ⟨tb,tq+6+5,none⟩=some (.slice C4 hD.length e4)))) (by kernel_rfl) (HC.o _ (hE.o.then (Below.refl _ _).drew)) (fun hA=>?_);refine Ab.s [0,1,2,3,4,5] ?_
 iterate 6 (refine Ab.k (so rfl) hA ?_;try simp only[Act.put,Bd,Be,Bf])
 refine Ab.d ?_;refine wpAnyH_ready (rs:=[6]) (by kernel_rfl) (by simp) ?_;refine AllReadyH.cons (sd (some 42) rfl) (fun Kx hK=>?_) AllReadyH.nil;go_simp;refine kZ.o.mono ?_;rintro e w7 ⟨rfl,hs,hb⟩;have hU:=Hd hs;have hH:Z9 (Ad (fun x=>x=mb\/x=mf) w2 w7):=Hd ((hE.o.then (Below.refl w3.heap.size w3).drew).trans hb fun x h=>.inl h);clear hs hb kZ;go_wp2_with fail;refine hK.out _ _ (HC.o _ hH.o) (fun hA=>?_);clear hK Kx;try simp only[Act.put,Bd,Be,Bf]
 refine wpAnyH_done (by kernel_rfl) ?_ _;refine NoPanic.normal ?_;clear hA;have KI:=Hd (aT.o K w7.drew (.mk k4 s4 n4 hC hB hD) _ (aW.o _ (hH.o.then (Below.refl _ _).drew)) hT.o.2.1.1 (by have h:=kX.o;omega));go_upto_region 8 with fail
 refine wp_region_noPanic ?_;refine wp_region_held_drew (S:=(fun w'=>w'.cell? ⟨w.heap.size,0,none⟩=some (.pointer (some ⟨g,0,none⟩))/\w'.cell? ⟨c2,0,none⟩=some (.pointer (some ⟨bp,op,none⟩))/\w'.cell? ⟨bp,op+1,none⟩=some (.string s)/\w'.cell? ⟨bp,op+2,none⟩=some (.int .i64 n)/\w'.cell? ⟨bp,op+3,none⟩=some (.slice (some ⟨tb,tq,none⟩) 4 d)/\(w'.cell? ⟨tb,tq+6,none⟩=some (.int .i64 k4)/\w'.cell? ⟨tb,tq+6+1,none⟩=some (.string s4)/\w'.cell? ⟨tb,tq+6+2,none⟩=some (.int .i64 n4)/\w'.cell? ⟨tb,tq+6+3,none⟩=some (.slice A4 hC.length c4)/\w'.cell? ⟨tb,tq+6+4,none⟩=some (.slice B4 hB.length d4)/\w'.cell? ⟨tb,tq+6+5,none⟩=some (.slice C4 hD.length e4)))) (by kernel_rfl) (HC.o _ (hH.o.then (Below.refl _ _).drew)) (fun hA=>?_);refine Ab.s [0,1,2,3,4,5,6,8,9,10,11,12] ?_
 iterate 12 (refine Ab.k (so rfl) hA ?_;try simp only[Act.put,Bd,Be,Bf])
 refine Ab.d ?_;refine wpAnyH_ready (rs:=[7]) (by kernel_rfl) (by simp) ?_;refine AllReadyH.cons (sd (some 50) rfl) (fun Kx hK=>?_) AllReadyH.nil;go_simp;refine KI.o.mono ?_;rintro e w8 ⟨l9,A9,c9,rfl,aI,hO,hY,aG,aE⟩;have hN:Below w7.heap.size w7 w8:=(Below.refl w7.heap.size w7).drew.trans aE;have hJ:Z9 (Ad (fun x=>x=mb\/x=mf) w2 w8):=Hd (hH.o.then hN);have kW:∀x,c x+cI l9 x<=9000000000000000000 - Am p2*1000000000000002/\Am p2*1000000000000002<=9000000000000000000:=fun x=>by
  have h1:=Jb9 (aR.o x) (Nat.le_trans (Uj l9 x) (Nat.le_trans hY kX.o.1)) (by decide);have h2:=h1.1
  skip
  omega
 have aB:=Hd (Ep (cN:=c9) (ps:=[p2]) (B:=9000000000000000000 - Am p2*1000000000000002) aI (fun b o e=>by have h1:=aG b o e;have h2:=hU.o.lt;have h3:w7.drew.heap.size=w7.heap.size:=rfl;omega) (Bk.one (c:=d - 2) (kJ.o _ hJ.o) aU.o (by have:=HD.o;omega)) (kB.o _ hJ.o) (hU.o.later hN) (fun x hx=>aV.o x ((hO x).1 hx)) kD.o (fun x=>(kW x).1) (Nat.sub_le _ _) (fun p hp=>by
  obtain rfl:p=p2:=(by simpa using hp);refine⟨kO.o.1,kO.o.2.1,?_⟩;have h:=(kW s).2;omega) (fun p hp=>by obtain rfl:p=p2:=(by simpa using hp);exact kO.o.2.2))
 have kP:=Hd hO;clear aI hO hY aG aE hN kW KI;go_wp2_with fail;refine hK.out _ _ (HC.o _ hJ.o) (fun hA=>?_);clear hK Kx;try simp only[Act.put,Bd,Be,Bf]
 refine wpAnyH_ready (rs:=[13]) (by kernel_rfl) (by simp) ?_;refine AllReadyH.cons (sd (some 56) rfl) (fun Kx hK=>?_) AllReadyH.nil;go_simp;refine aB.o.mono ?_;rintro e w9 ⟨rfl,aL,aF⟩;have kS:=Hd aL;have hG:Z9 (Ad (fun x=>x=mb\/x=mf) w2 w9):=Hd (hJ.o.trans aF fun x h=>.inl h);clear aL aF aB;go_wp2_with fail;refine hK.out _ _ (HC.o _ hG.o) (fun hA=>?_);clear hK Kx;try simp only[Act.put,Bd,Be,Bf]
 refine wpAnyH_done (by kernel_rfl) ?_ _;refine NoPanic.normal ?_;clear hA;have aA:=Hd (kA.o.2.2 K U g mb mf w9.drew tb (tq+18) _ _ (kK.o _ (hG.o.then (Below.refl _ _).drew)) hW.o (kB.o _ (hG.o.then (Below.refl _ _).drew)) (kS.o.later (Below.refl _ _).drew) kA.o.1 kD.o kN.o kA.o.2.1.1 kA.o.2.1.2);go_upto_region 9 with fail
 refine wp_region_noPanic ?_;refine wp_region_held_drew (S:=(fun w'=>w'.cell? ⟨w.heap.size,0,none⟩=some (.pointer (some ⟨g,0,none⟩))/\w'.cell? ⟨c2,0,none⟩=some (.pointer (some ⟨bp,op,none⟩))/\w'.cell? ⟨bp,op+1,none⟩=some (.string s)/\w'.cell? ⟨bp,op+2,none⟩=some (.int .i64 n)/\w'.cell? ⟨bp,op+3,none⟩=some (.slice (some ⟨tb,tq,none⟩) 4 d)/\(w'.cell? ⟨tb,tq+6,none⟩=some (.int .i64 k4)/\w'.cell? ⟨tb,tq+6+1,none⟩=some (.string s4)/\w'.cell? ⟨tb,tq+6+2,none⟩=some (.int .i64 n4)/\w'.cell? ⟨tb,tq+6+3,none⟩=some (.slice A4 hC.length c4)/\w'.cell? ⟨tb,tq+6+4,none⟩=some (.slice B4 hB.length d4)/\w'.cell? ⟨tb,tq+6+5,none⟩=some (.slice C4 hD.length e4)))) (by kernel_rfl) (HC.o _ (hG.o.then (Below.refl _ _).drew)) (fun hA=>?_);refine Ab.s [0,1,2,3,4,5] ?_
 iterate 6 (refine Ab.k (so rfl) hA ?_;try simp only[Act.put,Bd,Be,Bf])
 refine Ab.d ?_;refine wpAnyH_ready (rs:=[6]) (by kernel_rfl) (by simp) ?_;refine AllReadyH.cons (sd (some 63) rfl) (fun Kx hK=>?_) AllReadyH.nil;go_simp;refine aA.o.mono ?_;rintro e wA ⟨rfl,hs,hb⟩;have hV:=Hd hs;have hQ:Z9 (Ad (fun x=>x=mb\/x=mf) w2 wA):=Hd ((hG.o.then (Below.refl w9.heap.size w9).drew).trans hb fun x h=>.inl h);clear hs hb aA;go_wp2_with fail;refine hK.out _ _ (HC.o _ hQ.o) (fun hA=>?_);clear hK Kx;try simp only[Act.put,Bd,Be,Bf]
 refine wpAnyH_done (by kernel_rfl) ?_ _;refine NoPanic.normal ?_;clear hA;have aS:Z9 (Fp U wA g mb mf c (fun x=>S x || (decide (c x=0) && Bp x (.mk 21 s n [p0,.mk k4 s4 n4 hC hB hD,p2,p3] [] [])))):=Hd (hV.o.same (fun _=>rfl) fun x=>by
  have hm:=Ol kP.o x;rw[Gl,Lr,hm];try dsimp only
  rw[F1.o];generalize decide (c x=0)=d1;generalize decide (s=x)=d2;generalize Dc (Bi (.mk k4 s4 n4 hC hB hD)) x=d3;generalize Bp x p0=d4;generalize Bp x (.mk k4 s4 n4 hC hB hD)=d5;generalize Bp x p2=d6;generalize Bp x p3=d7
  cases S x <;> cases d1 <;> cases d2 <;> cases d3 <;> cases d4 <;> cases d5 <;> cases d6 <;> cases d7 <;> rfl)
 clear hV;go_wp2_with fail;exact⟨.tuple #[],by simp[results,Tryz.results186,go_sem],rfl,aS.o,LIFT.o _ hQ.o⟩
