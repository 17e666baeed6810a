import Derived.Test.YtlpfpehegddcfaaGreatDoorMx36
import Derived.Test.YtlpfpehegddcfaaGreatDoorMx38
import Derived.Test.YtlpfpehegddcfaaGreatDoorMx40
import Derived.Test.YtlpfpehegddcfaaGreatDoorMx41
namespace Go.Proofs.YtlpfpehegddcfaaGreatDoor
set_option maxRecDepth 100000
set_option maxHeartbeats 64000000
open Go.RowKit
theorem Pp {Cc:Prop}{n0:Z8}{u:Ty}{K Z:Nat->Prop}{wk sb nd:Nat}{w:World}{bp op a g2:Nat}{m:Option Nat}{n:Int}{s:Z8}{ps:List Ty}{vs:Bt}{A B C:Option Addr}{c d e:Nat}
  (hH:∀wx,Ad (fun x=>x=sb\/x=wk\/x=g2) w wx->wx.cell? ⟨bp,op+3,none⟩=some (.slice A ps.length c)/\wx.cell? ⟨bp,op+5,none⟩=some (.slice C vs.length e)) (hP:Bk K w ps A c) (hV:Da K w vs C e) (hK:∀x,K x->x<w.heap.size/\x≠sb/\x≠wk/\x≠g2) (hE:∀wx,Ad (fun x=>x=sb\/x=wk\/x=g2) w wx->Cp wk sb n0 wx m true) (hS:Ce K Z w sb u nd) (hF:Z sb) (hG:Z wk) (hC:Z g2) (hD:∀x,Z x->x<w.heap.size) (hO:w.heap[wk]?=some (.cells #[.int .i64 (a:Int)] 85 (0,0))) (hQ:wk≠sb) (hM:g2≠sb/\g2≠wk) (hR:w.heap[g2]?=some (.cells #[.int .i64 13,.string s,.int .i64 n,.slice A ps.length c,.slice B 0 d,.slice C vs.length e] 26 (0,0))) (hI:a+(Au ps+Bl vs)<=4096) (hJ:∀p∈ps,Aj p=true/\Dk p=true) (ihp:∀p∈ps,Jg Cc n0 u p) (hW:vs.length<=3518437208780) (hU:∀v∈vs,∀b∈v.2,Aj b=true/\Dk b=true) (ihv:∀v∈vs,∀b∈v.2,Jg Cc n0 u b) (hT:Aj u=true/\Dk u=true/\Am u<=5000) (hA:Bp n0 (E3 ps vs)=true->Dc (vs.map (·.1)) n0=false->∀x∈vs.map (·.1),Bp x u=false) (hN:(nd=1/\Am u=1/\Cc)\/Bp n0 (.mk 13 s n ps [] vs)=false) :
  Calls Tryz.prog 82 #[.pointer (some ⟨wk,0,none⟩),.pointer (some ⟨bp,op,none⟩),.pointer (some ⟨g2,0,none⟩),.map m] w (fun r w'=>r=.returned (.tuple #[])/\∃A' c' C' e',w'.heap[g2]?=some (.cells #[.int .i64 13,.string s,.int .i64 n,(.slice A' ps.length c'),.slice B 0 d,(.slice C' vs.length e')] 26 (0,0))/\Bk (fun x=>K x\/w.heap.size<=x) w' (ps.map (fun p=>if (Ff true (vs.map (·.1)) n0 (E3 ps vs))=true then Bh n0 u p else p)) A' c'/\Da (fun x=>K x\/w.heap.size<=x) w' (vs.map (fun v:Z8×List Ty=>(v.1,v.2.map (fun p=>if (Ff true (vs.map (·.1)) n0 (E3 ps vs))=true then Bh n0 u p else p)))) C' e'/\w'.heap[wk]?=some (.cells #[.int .i64 ((a+(Au ps+Bl vs):Nat):Int)] 85 (0,0))/\Ce K Z w' sb u nd/\Ad (fun x=>x=sb\/x=wk\/x=g2) w w'):=by
 have hL:Bp n0 (.mk 13 s n ps [] vs)=(!E9 vs n0 && (Gy n0 ps || Gp n0 vs)):=by
  rw[Dq];have e1:((13:Int) == 16 && decide (s=n0))=false:=by simp
  have e2:Jc n0 []=false:=rfl;rw[e1,e2,G5 (fun i=>G3 (by decide) (by decide) i),Bool.false_or,Bool.or_false,Bool.or_comm]
 by_cases hB:vs=[]
 ·subst hB;have e:(Ff true (([]:Bt).map (·.1)) n0 (E3 ps ([]:Bt)))=true:=by unfold Ff;simp
  rw[e];refine S8 hH hP hV hK hE hS hF hG hC hD hO hQ hM hR hI hJ ihp rfl fun p hp _=>hN.imp id fun h=>?_;rw[hL]at h;simp only[E9,List.any_nil,Bool.not_false,Bool.true_and,Bool.or_eq_false_iff]at h;rw[Bool.eq_false_iff];intro e;rw[show Gy n0 ps=true from List.any_eq_true.2 ⟨p,hp,e⟩]at h
  cases h.1
 ·have h0:0<vs.length:=List.length_pos_iff.2 hB;have e:(Ff true (vs.map (·.1)) n0 (E3 ps vs))=(Bp n0 (E3 ps vs) && !Dc (vs.map (·.1)) n0):=by
   unfold Ff;have:(vs.map (·.1)).isEmpty=false:=by
    cases vs with
    | nil=>exact absurd rfl hB
    | cons a l=>rfl
   rw[this];rfl
  rw[e];refine S9 hH hP hV hK hE hS hF hG hC hD hO hQ hM hR hI hJ ihp h0 hW hU ihv hT hA fun h=>hN.elim id fun h2=>?_;rw[hL,Ge]at *;rw[Po]at h;rw[Bool.and_eq_true]at h;rw[h.1,h.2]at h2
  cases h2
theorem Jao {n0:Z8}{u:Ty}{n:Int}{s:Z8}{ps:List Ty}{vs:Bt}(hp:∀p∈ps,Aj p=true) (hv:∀v∈vs,∀b∈v.2,Aj b=true):Bh n0 u (.mk 13 s n ps [] vs)=.mk 13 s n (ps.map (fun p=>if (Ff true (vs.map (·.1)) n0 (E3 ps vs))=true then Bh n0 u p else p)) [] (vs.map (fun v:Z8×List Ty=>(v.1,v.2.map (fun p=>if (Ff true (vs.map (·.1)) n0 (E3 ps vs))=true then Bh n0 u p else p)))):=by
 rw[Eu,if_neg (by simp),if_neg (by decide)];have hA:(Ff true (vs.map (·.1)) n0 (E3 ps vs))=(vs.isEmpty || (Bp n0 (E3 ps vs) && !E9 vs n0)):=by
  unfold Ff;rw[Ge,Bool.true_and]
  cases vs <;> rfl
 rw[hA];by_cases hi:E9 vs n0=true
 ·have h1:vs.isEmpty=false:=by
   cases vs with
   | nil=>cases hi
   | cons a l=>rfl
  rw[h1,hi,Kp (cut:=fun i=>true || Cz 13 s n ps i n0) fun i=>rfl];have e3:(vs.map fun v=>(v.1,v.2.map fun b=>if true=true then b else Bh n0 u b))=vs:=by
   refine (List.map_congr_left (g:=id) fun v _=>?_).trans (List.map_id _);simp
  rw[e3];simp
 ·rw[Bool.not_eq_true]at hi;rw[hi,Ko fun i=>by rw[G3 (by decide) (by decide)];rfl]
  cases hc:(vs.isEmpty || (Bp n0 (E3 ps vs) && !false)) with
  | true=>simp
  | false=>
   rw[Bool.or_eq_false_iff,Bool.not_false,Bool.and_true,Po,Bool.or_eq_false_iff]at hc;have h1:∀p∈ps,Bh n0 u p=p:=fun p h=>Ec n0 u p (hp p h) (Bool.eq_false_iff.2 fun e=>by
    have:=hc.2.1;rw[show Gy n0 ps=true from List.any_eq_true.2 ⟨p,h,e⟩]at this
    cases this)
   have h2:∀v∈vs,∀b∈v.2,Bh n0 u b=b:=fun v h b hb=>Ec n0 u b (hv v h b hb) (Bool.eq_false_iff.2 fun e=>by
    have:=hc.2.2;rw[show Gp n0 vs=true from List.any_eq_true.2 ⟨v,h,List.any_eq_true.2 ⟨b,hb,e⟩⟩]at this
    cases this)
   have e1:ps.map (Bh n0 u)=ps.map fun p=>if false=true then Bh n0 u p else p:=List.map_congr_left fun p h=>by rw[h1 p h];simp
   have e2:(vs.map fun v=>(v.1,v.2.map fun b=>if false=true then b else Bh n0 u b))=vs.map fun v=>(v.1,v.2.map fun p=>if false=true then Bh n0 u p else p):=List.map_congr_left fun v h=>by
    refine congrArg (Prod.mk v.1) (List.map_congr_left fun b hb=>?_);simp[h2 v h b hb]
   rw[e1,e2];rfl
theorem U4 {Cc:Prop}{n0:Z8}{u:Ty}{K Z:Nat->Prop}{wk sb nd:Nat}{w:World}{bp op a:Nat}{m:Option Nat}{n:Int}{s:Z8}{ps:List Ty}{vs:Bt}(ha:De K w (.mk 13 s n ps [] vs) bp op) (aG:bp≠sb/\bp≠wk) (hK:∀x,K x->x<w.heap.size/\x≠sb/\x≠wk) (hE:Cp wk sb n0 w m true) (hS:Ce K Z w sb u nd) (kD:Z sb) (hP:Z wk) (kC:∀x,Z x->x<w.heap.size) (kX:w.heap[wk]?=some (.cells #[.int .i64 (a:Int)] 85 (0,0))) (kG:wk≠sb) (aR:a+Am (.mk 13 s n ps [] vs)<=4096) (kE:Aj (.mk 13 s n ps [] vs)=true/\Dk (.mk 13 s n ps [] vs)=true) (aJ:(nd=1/\Am u=1/\Cc)\/Bp n0 (.mk 13 s n ps [] vs)=false) (aH:Aj u=true/\Dk u=true/\Am u<=5000) (hT:Bp n0 (E3 ps vs)=true->Dc (vs.map (·.1)) n0=false->∀x∈vs.map (·.1),Bp x u=false) (ihp:∀p∈ps,Jg Cc n0 u p) (ihv:∀v∈vs,∀b∈v.2,Jg Cc n0 u b) :
  Calls Tryz.prog 43 #[.pointer (some ⟨wk,0,none⟩),.pointer (some ⟨bp,op,none⟩),.map m] w (Ci n0 u K Z wk sb nd w true a (.mk 13 s n ps [] vs)):=by
 have aQ:Am (.mk 13 s n ps [] vs)=1+(Au ps+Bl vs):=by rw[Bu];show 1+(Au ps+(Bm []+Bl vs))=_;unfold Bm;simp
 obtain⟨gv1,gv2,gv3,-⟩:=Fz kE.2;have kT:∀p∈ps,Aj p=true/\Dk p=true:=fun p hp=>⟨D9 kE.1 p hp,gv3 p hp⟩;have kU:∀v∈vs,∀b∈v.2,Aj b=true/\Dk b=true:=fun v hv b hb=>⟨Jq kE.1 v hv b hb,gv2 v hv b hb⟩;obtain⟨PO,kQ⟩:∃PO:Ending->World->Prop,PO=Ci n0 u K Z wk sb nd w true a (.mk 13 s n ps [] vs):=⟨_,rfl⟩;have hM:Z9 (∀e w',(∃rs:List Value,e=.returned (.agg rs.toArray)/\Aw (fun x=>K x\/w.heap.size<=x) w' (Bh n0 u (.mk 13 s n ps [] vs)) rs/\w'.heap[wk]?=some (.cells #[.int .i64 ((a+Am (.mk 13 s n ps [] vs):Nat):Int)] 85 (0,0))/\Ce K Z w' sb u nd/\Ad (fun x=>x=sb\/x=wk) w w')->PO e w'):=Hd fun e w' h=>by
  rw[kQ];unfold Ci;rw[if_pos rfl];exact h
 rw[<-kQ];have kV:wk<w.heap.size:=(Array.getElem?_eq_some_iff.1 kX).1;have aK:sb<w.heap.size:=kC sb kD;refine Ia ha aG hK ⟨kV,aK⟩ fun A c B d C e w1 g h=>?_;obtain⟨HX,HY,hL,HS1,HG,HW1,HP,kZ,aP,kM,kK,aU⟩:=h;have kH:=Hd (Bj hL.o kV kX);have kB:=Hd hK;have aV:=Hd kG;have aW:=Hd hP;have HE:=Hd hE;have kP:=hE.but (Ad.of_below (O:=fun _=>False) hL.o) fun _ h=>h.elim;obtain⟨z,hz,aL⟩:=kP.len;have f1:¬ z=0:=of_decide_eq_false aL;have lk:=kP.look s (Nat.le_trans kM.o (by decide));obtain⟨n1,aI⟩:∃n1,n1=a+1:=⟨_,rfl⟩;obtain⟨w2,hY⟩:∃x,x=w1.setCell ⟨wk,0,none⟩ (.int .i64 ((a:Int)+1)):=⟨_,rfl⟩;have hJ:Ad (fun x=>x=wk) w1 w2:=by rw[hY];exact (Ad.refl (fun x=>x=wk) w1).put1 0 _
 have kS:w2.heap[wk]?=some (.cells #[.int .i64 (n1:Int)] 85 (0,0)):=by rw[hY,aI];exact Cw kH.o 0 _
 obtain⟨g2,kF⟩:∃x,x=w2.heap.size:=⟨_,rfl⟩;have kW:w2.heap.size=w1.heap.size:=by rw[hY];simp
 obtain⟨w3,hZ⟩:∃x,x=w2.alloc (.cells #[.int .i64 13,.string s,.int .i64 n,.slice A ps.length c,.slice B 0 d,.slice C vs.length e] 26):=⟨_,rfl⟩;have kR:Below w2.heap.size w2 w3:=by rw[hZ];exact (Below.refl _ _).alloc (Nat.le_refl _) _
 have hG:Ad (fun x=>x=wk) w1 w3:=hJ.then kR;have hF:Ad (fun x=>x=wk) w w3:=(Ad.of_below (O:=fun x=>x=wk) hL.o).trans hG fun x h=>.inl h;have hC:Ad (fun x=>x=sb\/x=wk) w1 w3:=hG.mono fun x h=>.inr h;have aM:Z9 (w3.heap[wk]?=some (.cells #[.int .i64 (n1:Int)] 85 (0,0))):=Hd (Bj kR (Array.getElem?_eq_some_iff.1 kS).1 kS);have aO:Z9 (Ce K (fun x=>Z x\/x=g\/x=g2) w3 sb u nd):=Hd ((hS.more fun x h=>h.elim .inl fun e=>.inr (by have h1:=HG.o;have h2:=HS1.o;omega)).but hF (fun h=>kG h.symm) (fun x h=>.inl (.inl (h ▸ hP))) fun x hx=>(hK x hx).2.2);have aS:Z9 (Cp wk sb n0 w3 m true):=Hd (hE.but hF fun x h=>.inl h);have hO:Z9 (w.heap.size<w3.heap.size/\g<w3.heap.size):=Hd (by have h1:=HS1.o;have h2:=HG.o;have h3:=hC.size;omega);have HZ:Z9 ((Z sb/\Z wk)/\∀x,Z x->x<w.heap.size):=Hd ⟨⟨kD,hP⟩,kC⟩;have aC:=Hd hY;have kY:Z9 (Ad (fun x=>x=sb\/x=wk) w1 w2):=Hd (hJ.mono fun x h=>.inr h);have aD:=Hd hZ;have hH:=Hd hC;have c0:=Ch kH.o 0;have c1:=Lib.frozen_of_heap kH.o 0;simp only[List.getElem?_toArray,List.getElem?_cons_zero]at c0;have t1:decide ((4096:Int)<(a:Int))=false:=decide_eq_false (by omega);have t1':¬ (4096:Int)<(a:Int):=by omega
 have t1'':¬ 4096<a:=by omega
 obtain⟨x0,x1,x2,x3,x4,x5⟩:=HX.o w1 (Ad.refl _ _);have hW:w3.heap.size=g2+1:=by rw[hZ,kF];simp
 have aN:Z9 (w3.heap[g2]?=some (.cells #[.int .i64 13,.string s,.int .i64 n,.slice A ps.length c,.slice B 0 d,.slice C vs.length e] 26 (0,0))):=Hd (by rw[hZ,kF];exact heap_alloc_new w2 _);have aA:=Hd kF;have hI:=Hd hW;have hA:Z9 (w1.heap.size<=g2/\g<g2):=Hd (by have h1:=HS1.o;omega);have hN:Z9 (¬ (g2=sb\/g2=wk)):=Hd (by have h1:=kK.o;have h2:=hA.o;omega);have aT:Z9 (∀wx,Ad (fun x=>x=sb\/x=wk) w wx->Cp wk sb n0 wx m true):=Hd fun wx hx=>hE.but hx fun x h=>h.elim (fun e=>.inr (.inl e)) .inl;have aF:∀wx,Ad (fun x=>x=sb\/x=wk\/x=g2) w3 wx->Ad (fun x=>x=sb\/x=wk) w1 wx:=fun wx hx=>hC.trans hx fun x h=>by have h1:=hA.o;rcases h with h|h|h;exact .inl (.inl h);exact .inl (.inr h);exact .inr (by omega)
 have aE:=Pp (K:=K) (Z:=fun x=>Z x\/x=g\/x=g2) (wk:=wk) (sb:=sb) (nd:=nd) (w:=w3) (bp:=bp) (op:=op) (a:=n1) (g2:=g2) (m:=m) (n:=n) (s:=s) (ps:=ps) (vs:=vs) (A:=A) (B:=B) (C:=C) (c:=c) (d:=d) (e:=e) (n0:=n0) (u:=u)
  (fun wx hx=>by have h:=HX.o wx (aF wx hx);exact⟨h.2.2.2.1,h.2.2.2.2.2⟩) (HP.o w3 hC) (aP.o w3 hC) (fun x hx=>⟨Nat.lt_trans (hK x hx).1 hO.o.1,(hK x hx).2.1,(hK x hx).2.2,by have h1:=(hK x hx).1;have h2:=hA.o;have h3:=HG.o;omega⟩) (fun wx hx=>by
   refine Cp.butM (O:=(fun x=>x=sb\/x=wk\/x=g2)) hE ((((Ad.of_below (O:=(fun x=>x=sb\/x=wk\/x=g2)) hL.o).trans hC fun x h=>.inl (h.imp id .inl))).trans hx fun x h=>.inl h) fun x h=>?_;rcases h with h|h|h
   ·exact .inr (.inl h)
   ·exact .inl h
   ·exact .inr (.inr (.inl (by have h2:=hA.o;have h3:=HG.o;omega)))) aO.o (.inl kD) (.inl hP) (.inr (.inr rfl)) (fun x h=>by
   have h1:=hO.o;have h2:=hI.o;rcases h with h|h|h
   ·have:=kC x h;omega
   ·omega
   ·omega) aM.o kG ⟨by have:=hN.o;omega,by have:=hN.o;omega⟩ aN.o (by omega) kT ihp gv1 kU ihv aH hT aJ
 have KF:=Hd aE;have aB:Z9 (Bh n0 u (.mk 13 s n ps [] vs)=_):=Hd (Jao (n0:=n0) (u:=u) (n:=n) (s:=s) (fun p hp=>(kT p hp).1) fun v hv b hb=>(kU v hv b hb).1);have HCN:Z9 (n1+(Au ps+Bl vs)=a+Am (.mk 13 s n ps [] vs)):=Hd (by omega);clear ha aG hK hE hS kD hP kC kX kG aR kV aK kQ aL kP kE aJ aH hT ihp ihv aQ aI hY hJ kS hZ kR hG hF hC kW hW kF gv1 gv2 gv3 kT kU aF aE;go_enter Tryz.func43,Tryz.ntmps43;go_upto_region 1 with fail
 rw[<-HW1.o,<-HG.o];by_cases hq:n0=s
 ·rw[show (true && decide (n0=s))=true by simp[hq],if_pos rfl]at lk;go_upto_region 11 with fail
  clear c0 c1 lk hz x0 x1 x2 x3 x4 x5;rw[<-aC.o];obtain⟨x0,x1,x2,x3,x4,x5⟩:=HX.o w2 kY.o;go_upto_region 12 with fail
  clear x0 x1 x2 x3 x4 x5;rw[<-aD.o,<-aA.o];obtain⟨x0,x1,x2,x3,x4,x5⟩:=HX.o w3 hH.o;go_upto_region 24 with fail
  go_wp2_with fail;refine KF.o.mono ?_;rintro r w5 ⟨rfl,A',c',C',e',kA,hU,hX,hR,hV,hQ⟩;have hB:Z9 (Ad (fun x=>x=sb\/x=wk) w1 w5):=Hd (hH.o.trans hQ fun x h=>by have h1:=hA.o;rcases h with h|h|h;exact .inl (.inl h);exact .inl (.inr h);exact .inr (by omega));have kO:=Hd kA;have kJ:=Hd hU;have kN:=Hd hX;have kI:=Hd hR;have kL:=Hd hV;have rb:=HY.o _ hB.o;clear kA hU hX hR hV hQ KF x0 x1 x2 x3 x4 x5;obtain⟨x0,x1,x2,x3,x4,x5⟩:=D4 kO.o;obtain⟨q0,q1,q2,q3,q4,q5,z0,z1,z2,z3,z4,z5⟩:=Je rb;have RBX:=Hd rb;clear rb;go_wp2_with fail;obtain⟨r0,r1,r2,r3,r4,r5⟩:=D4 (Cd RBX.o (.int .i64 13) (.string s) (.int .i64 n) ((.slice A' ps.length c')) (.slice B 0 d) ((.slice C' vs.length e')));clear q0 q1 q2 q3 q4 q5 z0 z1 z2 z3 z4 z5;refine bodyPost_ret (v:=.agg #[.int .i64 13,.string s,.int .i64 n,(.slice A' ps.length c'),.slice B 0 d,(.slice C' vs.length e')]) (by simp[results,Tryz.results43,go_sem,r0,r1,r2,r3,r4,r5]) rfl ?_;clear r0 r1 r2 r3 r4 r5;have hD:=Cr w5 g (.int .i64 13) (.string s) (.int .i64 n) ((.slice A' ps.length c')) (.slice B 0 d) ((.slice C' vs.length e'));have h1:=HCN.o;have h2:=kK.o;have h3:=HG.o;have h4:=hA.o;have h5:=hI.o;refine hM.o _ _ ⟨[.int .i64 13,.string s,.int .i64 n,(.slice A' ps.length c'),.slice B 0 d,(.slice C' vs.length e')],rfl,?_,by rw[<-h1];exact hD.up (by show ¬ wk=g;omega) kI.o,?_,Dx hL.o hB.o HG.o hD⟩
  ·rw[aB.o];obtain⟨b1,o1,r1,-⟩:=kZ.o _ hB.o;have hk:∀x,K x\/w3.heap.size<=x->¬ x=g/\(K x\/w.heap.size<=x):=fun x hx=>by
    rcases hx with hx|hx
    ·have h6:=(kB.o x hx).1;exact⟨by omega,.inl hx⟩
    ·exact⟨by omega,.inr (by omega)⟩
   have hr:=Aw.of (k:=13) (n:=n) (fs:=[]) (A':=B) (c':=d) kM.o (kJ.o.but hD hk) ⟨b1,o1,⟨r1.le,r1.big,r1.none,fun h=>absurd h (by simp)⟩,fun i h=>absurd h (by simp)⟩ (kN.o.but hD hk);rw[List.length_map,List.length_map]at hr;exact hr
  ·exact (kL.o.but hD (fun e=>by have e:sb=g:=e;omega) (fun x h=>.inl (.inr (.inl h))) fun x hx e=>by have h6:=(kB.o x hx).1;have e:x=g:=e;omega).more fun x h=>.inl (.inl h)
 ·rw[show (true && decide (n0=s))=false by simp[hq],if_neg (by decide)]at lk;go_upto_region 11 with fail
  clear c0 c1 lk hz x0 x1 x2 x3 x4 x5;rw[<-aC.o];obtain⟨x0,x1,x2,x3,x4,x5⟩:=HX.o w2 kY.o;go_upto_region 12 with fail
  clear x0 x1 x2 x3 x4 x5;rw[<-aD.o,<-aA.o];obtain⟨x0,x1,x2,x3,x4,x5⟩:=HX.o w3 hH.o;go_upto_region 24 with fail
  go_wp2_with fail;refine KF.o.mono ?_;rintro r w5 ⟨rfl,A',c',C',e',kA,hU,hX,hR,hV,hQ⟩;have hB:Z9 (Ad (fun x=>x=sb\/x=wk) w1 w5):=Hd (hH.o.trans hQ fun x h=>by have h1:=hA.o;rcases h with h|h|h;exact .inl (.inl h);exact .inl (.inr h);exact .inr (by omega));have kO:=Hd kA;have kJ:=Hd hU;have kN:=Hd hX;have kI:=Hd hR;have kL:=Hd hV;have rb:=HY.o _ hB.o;clear kA hU hX hR hV hQ KF x0 x1 x2 x3 x4 x5;obtain⟨x0,x1,x2,x3,x4,x5⟩:=D4 kO.o;obtain⟨q0,q1,q2,q3,q4,q5,z0,z1,z2,z3,z4,z5⟩:=Je rb;have RBX:=Hd rb;clear rb;go_wp2_with fail;obtain⟨r0,r1,r2,r3,r4,r5⟩:=D4 (Cd RBX.o (.int .i64 13) (.string s) (.int .i64 n) ((.slice A' ps.length c')) (.slice B 0 d) ((.slice C' vs.length e')));clear q0 q1 q2 q3 q4 q5 z0 z1 z2 z3 z4 z5;refine bodyPost_ret (v:=.agg #[.int .i64 13,.string s,.int .i64 n,(.slice A' ps.length c'),.slice B 0 d,(.slice C' vs.length e')]) (by simp[results,Tryz.results43,go_sem,r0,r1,r2,r3,r4,r5]) rfl ?_;clear r0 r1 r2 r3 r4 r5;have hD:=Cr w5 g (.int .i64 13) (.string s) (.int .i64 n) ((.slice A' ps.length c')) (.slice B 0 d) ((.slice C' vs.length e'));have h1:=HCN.o;have h2:=kK.o;have h3:=HG.o;have h4:=hA.o;have h5:=hI.o;refine hM.o _ _ ⟨[.int .i64 13,.string s,.int .i64 n,(.slice A' ps.length c'),.slice B 0 d,(.slice C' vs.length e')],rfl,?_,by rw[<-h1];exact hD.up (by show ¬ wk=g;omega) kI.o,?_,Dx hL.o hB.o HG.o hD⟩
  ·rw[aB.o];obtain⟨b1,o1,r1,-⟩:=kZ.o _ hB.o;have hk:∀x,K x\/w3.heap.size<=x->¬ x=g/\(K x\/w.heap.size<=x):=fun x hx=>by
    rcases hx with hx|hx
    ·have h6:=(kB.o x hx).1;exact⟨by omega,.inl hx⟩
    ·exact⟨by omega,.inr (by omega)⟩
   have hr:=Aw.of (k:=13) (n:=n) (fs:=[]) (A':=B) (c':=d) kM.o (kJ.o.but hD hk) ⟨b1,o1,⟨r1.le,r1.big,r1.none,fun h=>absurd h (by simp)⟩,fun i h=>absurd h (by simp)⟩ (kN.o.but hD hk);rw[List.length_map,List.length_map]at hr;exact hr
  ·exact (kL.o.but hD (fun e=>by have e:sb=g:=e;omega) (fun x h=>.inl (.inr (.inl h))) fun x hx e=>by have h6:=(kB.o x hx).1;have e:x=g:=e;omega).more fun x h=>.inl (.inl h)
theorem Xq {Cc:Prop}{n0:Z8}{u:Ty}{K Z:Nat->Prop}{wk sb nd:Nat}{w:World}{bp op a g2:Nat}{m:Option Nat}{n:Int}{s:Z8}{p0 p1 p2 p3:Ty}{A B C:Option Addr}{c d e:Nat}
  (hJ:∀wx,Ad (fun x=>x=sb\/x=wk\/x=g2) w wx->wx.cell? ⟨bp,op+1,none⟩=some (.string s)/\wx.cell? ⟨bp,op+2,none⟩=some (.int .i64 n)/\wx.cell? ⟨bp,op+3,none⟩=some (.slice A 4 c)) (hP:Bk K w [p0,p1,p2,p3] A c) (hK:∀x,K x->x<w.heap.size/\x≠sb/\x≠wk/\x≠g2) (hE:∀wx,Ad (fun x=>x=sb\/x=wk\/x=g2) w wx->Cp wk sb n0 wx m true) (hQ:m≠some g2) (hS:Ce K Z w sb u nd) (hH:Z sb) (hI:Z wk) (hF:Z g2) (hG:∀x,Z x->x<w.heap.size) (hT:w.heap[wk]?=some (.cells #[.int .i64 (a:Int)] 85 (0,0))) (hU:wk≠sb) (hO:g2≠sb/\g2≠wk) (hV:w.heap[g2]?=some (.cells #[.int .i64 21,.string s,.int .i64 n,.slice A 4 c,.slice B 0 d,.slice C 0 e] 26 (0,0))) (hL:a+Au [p0,p1,p2,p3]<=4096) (hM:∀p∈[p0,p1,p2,p3],Aj p=true/\Dk p=true) (ihp:∀p∈[p0,p1,p2,p3],Jg Cc n0 u p) (hN:Aj u=true/\Dk u=true/\Am u<=5000) {act1 act2:Bool} (hA:act1=if n=1 then Ff true [s] n0 (Fl [p0,p1,p2,p3]) else true) (hB:act2=Ff act1 (Bi p1) n0 p2) (hD:n=1->Bp n0 (Fl [p0,p1,p2,p3])=true->Dc [s] n0=false->∀x∈[s],Bp x u=false) (hC:act1=true->Bp n0 p2=true->Dc (Bi p1) n0=false->∀x∈Bi p1,Bp x u=false) (hR:((nd=1/\Am u=1/\Cc)\/Bp n0 p0=false)/\(act1=true->(nd=1/\Am u=1/\Cc)\/Bp n0 p1=false)/\(act2=true->(nd=1/\Am u=1/\Cc)\/Bp n0 p2=false)/\(act1=true->(nd=1/\Am u=1/\Cc)\/Bp n0 p3=false)) :
  Calls Tryz.prog 84 #[.pointer (some ⟨wk,0,none⟩),.pointer (some ⟨bp,op,none⟩),.pointer (some ⟨g2,0,none⟩),.map m] w (fun r w'=>r=.returned (.tuple #[])/\∃A' c',w'.heap[g2]?=some (.cells #[.int .i64 21,.string s,.int .i64 n,(.slice A' 4 c'),.slice B 0 d,.slice C 0 e] 26 (0,0))/\Bk (fun x=>K x\/w.heap.size<=x) w' [Bh n0 u p0,if act1=true then Bh n0 u p1 else p1,if act2=true then Bh n0 u p2 else p2,if act1=true then Bh n0 u p3 else p3] A' c'/\w'.heap[wk]?=some (.cells #[.int .i64 ((a+Au [p0,p1,p2,p3]:Nat):Int)] 85 (0,0))/\Ce K Z w' sb u nd/\Ad (fun x=>x=sb\/x=wk\/x=g2) w w'):=by
 by_cases hn:n=1
 ·rw[if_pos hn]at hA;exact Jc4 hJ hP hK hE hQ hS hH hI hF hG hT hU hO hV hL hM ihp hN hA hB hn (hD hn) hC hR
 ·rw[if_neg hn]at hA;exact Jc3 hJ hP hK hE hQ hS hH hI hF hG hT hU hO hV hL hM ihp hN hA hB hn hC hR
theorem Pn (x:Z8) (p0 p1 p2 p3:Ty):Bp x (Fl [p0,p1,p2,p3])=(Bp x p1 || ((!Dc (Bi p1) x && Bp x p2) || Bp x p3)):=by
 have h:Fl [p0,p1,p2,p3]=.mk 21 Bv 0 [Hi 1,p1,p2,p3] [] []:=rfl;have e:Bp x (Hi 1)=false:=by unfold Hi;rw[Dq];simp[Gp,Dn,Jc,E9]
 rw[h,Gl,e];simp
theorem Lo (x s:Z8) (t:Ty):Ff true [s] x t=(Bp x t && !decide (s=x)):=by
 unfold Ff;simp[Dc]
theorem Jan {x:Z8}{u p0 p1 p2 p3:Ty}{n:Int}{s:Z8}{act1 act2:Bool}(h1:Aj p1=true) (h2:Aj p2=true) (h3:Aj p3=true) (hC:act1=if n=1 then Ff true [s] x (Fl [p0,p1,p2,p3]) else true) (hE:act2=Ff act1 (Bi p1) x p2) :
  Bh x u (.mk 21 s n [p0,p1,p2,p3] [] [])=.mk 21 s n [Bh x u p0,if act1=true then Bh x u p1 else p1,if act2=true then Bh x u p2 else p2,if act1=true then Bh x u p3 else p3] [] []:=by
 rw[Eu,if_neg (by simp),if_neg (by decide)];simp only[Fk,List.map_nil];have e0:(E9 ([]:Bt) x || Cz 21 s n [p0,p1,p2,p3] 0 x)=false:=by simp[E9,Cz]
 have e1:(E9 ([]:Bt) x || Cz 21 s n [p0,p1,p2,p3] (0+1) x)=((n == 1) && decide (s=x)):=by simp[E9,Cz]
 have e2:(E9 ([]:Bt) x || Cz 21 s n [p0,p1,p2,p3] (0+1+1) x)=(((n == 1) && decide (s=x)) || Dc (Bi p1) x):=by simp[E9,Cz,Cu]
 have e3:(E9 ([]:Bt) x || Cz 21 s n [p0,p1,p2,p3] (0+1+1+1) x)=((n == 1) && decide (s=x)):=by simp[E9,Cz]
 have hA:∀p:Ty,Aj p=true->(Bp x (Fl [p0,p1,p2,p3])=false->Bp x p=false)->(if ((n == 1) && decide (s=x))=true then p else Bh x u p)=if act1=true then Bh x u p else p:=fun p hp hG=>by
  rw[hC];by_cases hn:n=1
  ·rw[if_pos hn,Lo];by_cases hs:s=x
   ·simp[hn,hs]
   ·rw[decide_eq_false hs];simp only[Bool.and_false,Bool.not_false,Bool.and_true];rw[if_neg (by decide)]
    cases hb:Bp x (Fl [p0,p1,p2,p3]) with
    | true=>rfl
    | false=>rw[Ec x u p hp (hG hb)];rfl
  ·have hB:(n == 1)=false:=beq_eq_false_iff_ne.2 hn;rw[if_neg hn,hB];rfl
 have g0:(if (E9 ([]:Bt) x || Cz 21 s n [p0,p1,p2,p3] 0 x)=true then p0 else Bh x u p0)=Bh x u p0:=if_neg (by rw[e0];decide);have g1:=hA p1 h1 fun h=>by rw[Pn,Bool.or_eq_false_iff]at h;exact h.1
 have g3:=hA p3 h3 fun h=>by rw[Pn,Bool.or_eq_false_iff,Bool.or_eq_false_iff]at h;exact h.2.2
 have g2:(if (((n == 1) && decide (s=x)) || Dc (Bi p1) x)=true then p2 else Bh x u p2)=if act2=true then Bh x u p2 else p2:=by
  have hF:(Bi p1).isEmpty=true->Dc (Bi p1) x=false:=fun h=>by
   rw[List.isEmpty_iff]at h;rw[h];rfl
  rw[hE];unfold Ff;by_cases hi:Dc (Bi p1) x=true
  ·have he:(Bi p1).isEmpty=false:=Bool.eq_false_iff.2 fun e=>by rw[hF e]at hi;cases hi
   rw[hi,he];simp
  ·rw[Bool.not_eq_true]at hi;rw[hi,Bool.or_false];rw[hC];by_cases hn:n=1
   ·rw[if_pos hn,Lo];by_cases hs:s=x
    ·simp[hn,hs]
    ·rw[decide_eq_false hs];simp only[Bool.and_false,Bool.not_false,Bool.and_true];rw[if_neg (by decide)]
     cases hb:Bp x (Fl [p0,p1,p2,p3]) with
     | true=>
      cases hf:Bp x p2 with
      | true=>simp
      | false=>rw[Ec x u p2 h2 hf];simp
     | false=>
      have hD:=hb;rw[Pn,hi,Bool.or_eq_false_iff,Bool.or_eq_false_iff]at hD;have hf:Bp x p2=false:=(by simpa using hD.2.1);rw[Ec x u p2 h2 hf];simp
   ·have hB:(n == 1)=false:=beq_eq_false_iff_ne.2 hn;rw[if_neg hn,hB]
    cases hf:Bp x p2 with
    | true=>simp
    | false=>rw[Ec x u p2 h2 hf];simp
 have f1:=(congrArg (fun b:Bool=>if b=true then p1 else Bh x u p1) e1).trans g1;have f2:=(congrArg (fun b:Bool=>if b=true then p2 else Bh x u p2) e2).trans g2;have f3:=(congrArg (fun b:Bool=>if b=true then p3 else Bh x u p3) e3).trans g3;rw[g0,f1,f2,f3]
theorem U3 {Cc:Prop}{n0:Z8}{u:Ty}{K Z:Nat->Prop}{wk sb nd:Nat}{w:World}{bp op a:Nat}{m:Option Nat}{n:Int}{s:Z8}{p0 p1 p2 p3:Ty}(ha:De K w (.mk 21 s n [p0,p1,p2,p3] [] []) bp op) (aK:bp≠sb/\bp≠wk) (hK:∀x,K x->x<w.heap.size/\x≠sb/\x≠wk) (hE:Cp wk sb n0 w m true) (hS:Ce K Z w sb u nd) (kI:Z sb) (hU:Z wk) (kH:∀x,Z x->x<w.heap.size) (aA:w.heap[wk]?=some (.cells #[.int .i64 (a:Int)] 85 (0,0))) (kK:wk≠sb) (aW:a+Am (.mk 21 s n [p0,p1,p2,p3] [] [])<=4096) (kW:Aj (.mk 21 s n [p0,p1,p2,p3] [] [])=true/\Dk (.mk 21 s n [p0,p1,p2,p3] [] [])=true) (aO:(nd=1/\Am u=1/\Cc)\/Bp n0 (.mk 21 s n [p0,p1,p2,p3] [] [])=false) (aL:Aj u=true/\Dk u=true/\Am u<=5000) (hL:n=1->Bp n0 (Fl [p0,p1,p2,p3])=true->Dc [s] n0=false->∀x∈[s],Bp x u=false) (hM:¬(n=1/\s=n0)->Bp n0 p2=true->Dc (Bi p1) n0=false->∀x∈Bi p1,Bp x u=false) (ihp:∀p∈[p0,p1,p2,p3],Jg Cc n0 u p) :
  Calls Tryz.prog 43 #[.pointer (some ⟨wk,0,none⟩),.pointer (some ⟨bp,op,none⟩),.map m] w (Ci n0 u K Z wk sb nd w true a (.mk 21 s n [p0,p1,p2,p3] [] [])):=by
 have aV:Am (.mk 21 s n [p0,p1,p2,p3] [] [])=1+Au [p0,p1,p2,p3]:=by rw[Bu];show 1+(Au [p0,p1,p2,p3]+(Bm []+Bl []))=_;unfold Bm Bl;simp
 obtain⟨-,-,gv3,-⟩:=Fz kW.2;have hX:∀p∈[p0,p1,p2,p3],Aj p=true/\Dk p=true:=fun p hp=>⟨D9 kW.1 p hp,gv3 p hp⟩;obtain⟨act1,hC⟩:∃b:Bool,b=if n=1 then Ff true [s] n0 (Fl [p0,p1,p2,p3]) else true:=⟨_,rfl⟩
 obtain⟨act2,hD⟩:∃b:Bool,b=Ff act1 (Bi p1) n0 p2:=⟨_,rfl⟩;have aQ:=Jan (u:=u) (p0:=p0) (hX p1 (by simp)).1 (hX p2 (by simp)).1 (hX p3 (by simp)).1 hC hD;have kA:act1=true->¬(n=1/\s=n0):=fun ha h=>by
  rw[hC,if_pos h.1,Lo,Bool.and_eq_true,Bool.not_eq_true']at ha;exact of_decide_eq_false ha.2 h.2
 have hZ:((nd=1/\Am u=1/\Cc)\/Bp n0 p0=false)/\(act1=true->(nd=1/\Am u=1/\Cc)\/Bp n0 p1=false)/\(act2=true->(nd=1/\Am u=1/\Cc)\/Bp n0 p2=false)/\(act1=true->(nd=1/\Am u=1/\Cc)\/Bp n0 p3=false):=by
  rcases aO with h|h
  ·exact⟨.inl h,fun _=>.inl h,fun _=>.inl h,fun _=>.inl h⟩
  ·rw[Gl,Bool.or_eq_false_iff]at h;obtain⟨h0,h⟩:=h;have kX:act1=true->Bp n0 p1=false/\(!Dc (Bi p1) n0 && Bp n0 p2)=false/\Bp n0 p3=false:=fun ha=>by
    have hc:((n == 1) && decide (s=n0))=false:=by
     rw[hC]at ha;by_cases hn:n=1
     ·rw[if_pos hn,Lo,Bool.and_eq_true,Bool.not_eq_true']at ha;rw[ha.2,Bool.and_false]
     ·rw[show (n == 1)=false from beq_eq_false_iff_ne.2 hn];rfl
    rw[hc,Bool.not_false,Bool.true_and,Bool.or_eq_false_iff,Bool.or_eq_false_iff]at h;exact⟨h.1,h.2.1,h.2.2⟩
   refine⟨.inr h0,fun ha=>.inr (kX ha).1,fun ha=>.inr ?_,fun ha=>.inr (kX ha).2.2⟩;rw[hD]at ha;unfold Ff at ha;rw[Bool.and_eq_true]at ha;have h1:=(kX ha.1).2.1;have h2:Dc (Bi p1) n0=false:=by
    cases he:(Bi p1).isEmpty with
    | true=>rw[List.isEmpty_iff]at he;rw[he];rfl
    | false=>
     have h3:=ha.2;rw[he,Bool.false_or,Bool.and_eq_true,Bool.not_eq_true']at h3;exact h3.2
   rw[h2]at h1;simpa using h1
 obtain⟨PO,kT⟩:∃PO:Ending->World->Prop,PO=Ci n0 u K Z wk sb nd w true a (.mk 21 s n [p0,p1,p2,p3] [] []):=⟨_,rfl⟩;have hQ:Z9 (∀e w',(∃rs:List Value,e=.returned (.agg rs.toArray)/\Aw (fun x=>K x\/w.heap.size<=x) w' (Bh n0 u (.mk 21 s n [p0,p1,p2,p3] [] [])) rs/\w'.heap[wk]?=some (.cells #[.int .i64 ((a+Am (.mk 21 s n [p0,p1,p2,p3] [] []):Nat):Int)] 85 (0,0))/\Ce K Z w' sb u nd/\Ad (fun x=>x=sb\/x=wk) w w')->PO e w'):=Hd fun e w' h=>by
  rw[kT];unfold Ci;rw[if_pos rfl];exact h
 rw[<-kT];have kY:wk<w.heap.size:=(Array.getElem?_eq_some_iff.1 aA).1;have aP:sb<w.heap.size:=kH sb kI;refine Ia ha aK hK ⟨kY,aP⟩ fun A c B d C e w1 g h=>?_;obtain⟨HX,HY,hP,HS1,HG,HW1,HP,aC,aF,kQ,kO,aZ⟩:=h;have kL:=Hd (Bj hP.o kY aA);have kG:=Hd hK;have bA:=Hd kK;have bB:=Hd hU;have HE:=Hd hE;have kS:=hE.but (Ad.of_below (O:=fun _=>False) hP.o) fun _ h=>h.elim;obtain⟨z,hz,aR⟩:=kS.len;have f1:¬ z=0:=of_decide_eq_false aR;have lk:=kS.look s (Nat.le_trans kQ.o (by decide));obtain⟨n1,aN⟩:∃n1,n1=a+1:=⟨_,rfl⟩;obtain⟨w2,kD⟩:∃x,x=w1.setCell ⟨wk,0,none⟩ (.int .i64 ((a:Int)+1)):=⟨_,rfl⟩;have hO:Ad (fun x=>x=wk) w1 w2:=by rw[kD];exact (Ad.refl (fun x=>x=wk) w1).put1 0 _
 have kV:w2.heap[wk]?=some (.cells #[.int .i64 (n1:Int)] 85 (0,0)):=by rw[kD,aN];exact Cw kL.o 0 _
 obtain⟨g2,kJ⟩:∃x,x=w2.heap.size:=⟨_,rfl⟩;have kZ:w2.heap.size=w1.heap.size:=by rw[kD];simp
 obtain⟨w3,kE⟩:∃x,x=w2.alloc (.cells #[.int .i64 21,.string s,.int .i64 n,.slice A 4 c,.slice B 0 d,.slice C 0 e] 26):=⟨_,rfl⟩;have kU:Below w2.heap.size w2 w3:=by rw[kE];exact (Below.refl _ _).alloc (Nat.le_refl _) _
 have hH:Ad (fun x=>x=wk) w1 w3:=hO.then kU;have hG:Ad (fun x=>x=wk) w w3:=(Ad.of_below (O:=fun x=>x=wk) hP.o).trans hH fun x h=>.inl h;have hF:Ad (fun x=>x=sb\/x=wk) w1 w3:=hH.mono fun x h=>.inr h;have aS:Z9 (w3.heap[wk]?=some (.cells #[.int .i64 (n1:Int)] 85 (0,0))):=Hd (Bj kU (Array.getElem?_eq_some_iff.1 kV).1 kV);have aU:Z9 (Ce K (fun x=>Z x\/x=g\/x=g2) w3 sb u nd):=Hd ((hS.more fun x h=>h.elim .inl fun e=>.inr (by have h1:=HG.o;have h2:=HS1.o;omega)).but hG (fun h=>kK h.symm) (fun x h=>.inl (.inl (h ▸ hU))) fun x hx=>(hK x hx).2.2);have aX:Z9 (Cp wk sb n0 w3 m true):=Hd (hE.but hG fun x h=>.inl h);have hT:Z9 (w.heap.size<w3.heap.size/\g<w3.heap.size):=Hd (by have h1:=HS1.o;have h2:=HG.o;have h3:=hF.size;omega);have HZ:Z9 ((Z sb/\Z wk)/\∀x,Z x->x<w.heap.size):=Hd ⟨⟨kI,hU⟩,kH⟩;have aG:=Hd kD;have aB:Z9 (Ad (fun x=>x=sb\/x=wk) w1 w2):=Hd (hO.mono fun x h=>.inr h);have aH:=Hd kE;have hI:=Hd hF;have c0:=Ch kL.o 0;have c1:=Lib.frozen_of_heap kL.o 0;simp only[List.getElem?_toArray,List.getElem?_cons_zero]at c0;have t1:decide ((4096:Int)<(a:Int))=false:=decide_eq_false (by omega);have t1':¬ (4096:Int)<(a:Int):=by omega
 have t1'':¬ 4096<a:=by omega
 obtain⟨x0,x1,x2,x3,x4,x5⟩:=HX.o w1 (Ad.refl _ _);have kC:w3.heap.size=g2+1:=by rw[kE,kJ];simp
 have aT:Z9 (w3.heap[g2]?=some (.cells #[.int .i64 21,.string s,.int .i64 n,.slice A 4 c,.slice B 0 d,.slice C 0 e] 26 (0,0))):=Hd (by rw[kE,kJ];exact heap_alloc_new w2 _);have aD:=Hd kJ;have hN:=Hd kC;have hB:Z9 (w1.heap.size<=g2/\g<g2):=Hd (by have h1:=HS1.o;omega);have hR:Z9 (¬ (g2=sb\/g2=wk)):=Hd (by have h1:=kO.o;have h2:=hB.o;omega);have aY:Z9 (∀wx,Ad (fun x=>x=sb\/x=wk) w wx->Cp wk sb n0 wx m true):=Hd fun wx hx=>hE.but hx fun x h=>h.elim (fun e=>.inr (.inl e)) .inl;have aJ:∀wx,Ad (fun x=>x=sb\/x=wk\/x=g2) w3 wx->Ad (fun x=>x=sb\/x=wk) w1 wx:=fun wx hx=>hF.trans hx fun x h=>by have h1:=hB.o;rcases h with h|h|h;exact .inl (.inl h);exact .inl (.inr h);exact .inr (by omega)
 have aM:m≠some g2:=fun e=>by
  subst e;have h1:=hE.2.2.1;have h2:=hB.o;have h3:=HG.o;omega
 have aI:=Xq (K:=K) (Z:=fun x=>Z x\/x=g\/x=g2) (wk:=wk) (sb:=sb) (nd:=nd) (w:=w3) (bp:=bp) (op:=op) (a:=n1) (g2:=g2) (m:=m) (n:=n) (s:=s) (p0:=p0) (p1:=p1) (p2:=p2) (p3:=p3) (A:=A) (B:=B) (C:=C) (c:=c) (d:=d) (e:=e) (n0:=n0) (u:=u)
  (fun wx hx=>by have h:=HX.o wx (aJ wx hx);exact⟨h.2.1,h.2.2.1,h.2.2.2.1⟩) (HP.o w3 hF) (fun x hx=>⟨Nat.lt_trans (hK x hx).1 hT.o.1,(hK x hx).2.1,(hK x hx).2.2,by have h1:=(hK x hx).1;have h2:=hB.o;have h3:=HG.o;omega⟩) (fun wx hx=>by
   refine Cp.butM (O:=(fun x=>x=sb\/x=wk\/x=g2)) hE ((((Ad.of_below (O:=(fun x=>x=sb\/x=wk\/x=g2)) hP.o).trans hF fun x h=>.inl (h.imp id .inl))).trans hx fun x h=>.inl h) fun x h=>?_;rcases h with h|h|h
   ·exact .inr (.inl h)
   ·exact .inl h
   ·exact .inr (.inr (.inl (by have h2:=hB.o;have h3:=HG.o;omega)))) aM aU.o (.inl kI) (.inl hU) (.inr (.inr rfl)) (fun x h=>by
   have h1:=hT.o;have h2:=hN.o;rcases h with h|h|h
   ·have:=kH x h;omega
   ·omega
   ·omega) aS.o kK ⟨by have:=hR.o;omega,by have:=hR.o;omega⟩ aT.o (by omega) hX ihp aL hC hD hL (fun ha=>hM (kA ha)) hZ
 have KF:=Hd aI;have aE:=Hd aQ;have HCN:Z9 (n1+Au [p0,p1,p2,p3]=a+Am (.mk 21 s n [p0,p1,p2,p3] [] [])):=Hd (by omega);clear ha aK hK hE hS kI hU kH aA kK aW kY aP kT aR kS kW aO aL hL hM ihp aV aN kD hO kV kE kU hH hG hF kZ kC kJ gv3 hX aJ aI aM hC hD aQ hZ kA;go_enter Tryz.func43,Tryz.ntmps43;go_upto_region 1 with fail
 rw[<-HW1.o,<-HG.o];by_cases hq:n0=s
 ·rw[show (true && decide (n0=s))=true by simp[hq],if_pos rfl]at lk;go_upto_region 11 with fail
  clear c0 c1 lk hz x0 x1 x2 x3 x4 x5;rw[<-aG.o];obtain⟨x0,x1,x2,x3,x4,x5⟩:=HX.o w2 aB.o;go_upto_region 12 with fail
  clear x0 x1 x2 x3 x4 x5;rw[<-aH.o,<-aD.o];obtain⟨x0,x1,x2,x3,x4,x5⟩:=HX.o w3 hI.o;go_upto_region 30 with fail
  go_wp2_with fail;refine KF.o.mono ?_;rintro r w5 ⟨rfl,A',c',kF,hY,hW,kB,hV⟩;have hA:Z9 (Ad (fun x=>x=sb\/x=wk) w1 w5):=Hd (hI.o.trans hV fun x h=>by have h1:=hB.o;rcases h with h|h|h;exact .inl (.inl h);exact .inl (.inr h);exact .inr (by omega));have kR:=Hd kF;have kN:=Hd hY;have kM:=Hd hW;have kP:=Hd kB;have rb:=HY.o _ hA.o;clear kF hY hW kB hV KF x0 x1 x2 x3 x4 x5;obtain⟨x0,x1,x2,x3,x4,x5⟩:=D4 kR.o;obtain⟨q0,q1,q2,q3,q4,q5,z0,z1,z2,z3,z4,z5⟩:=Je rb;have RBX:=Hd rb;clear rb;go_wp2_with fail;obtain⟨r0,r1,r2,r3,r4,r5⟩:=D4 (Cd RBX.o (.int .i64 21) (.string s) (.int .i64 n) ((.slice A' 4 c')) (.slice B 0 d) (.slice C 0 e));clear q0 q1 q2 q3 q4 q5 z0 z1 z2 z3 z4 z5;refine bodyPost_ret (v:=.agg #[.int .i64 21,.string s,.int .i64 n,(.slice A' 4 c'),.slice B 0 d,.slice C 0 e]) (by simp[results,Tryz.results43,go_sem,r0,r1,r2,r3,r4,r5]) rfl ?_;clear r0 r1 r2 r3 r4 r5;have hJ:=Cr w5 g (.int .i64 21) (.string s) (.int .i64 n) ((.slice A' 4 c')) (.slice B 0 d) (.slice C 0 e);have h1:=HCN.o;have h2:=kO.o;have h3:=HG.o;have h4:=hB.o;have h5:=hN.o;refine hQ.o _ _ ⟨[.int .i64 21,.string s,.int .i64 n,(.slice A' 4 c'),.slice B 0 d,.slice C 0 e],rfl,?_,by rw[<-h1];exact hJ.up (by show ¬ wk=g;omega) kM.o,?_,Dx hP.o hA.o HG.o hJ⟩
  ·rw[aE.o];obtain⟨b1,o1,r1,-⟩:=aC.o _ hA.o;obtain⟨b2,o2,r2,-⟩:=aF.o _ hA.o;have hk:∀x,K x\/w3.heap.size<=x->¬ x=g/\(K x\/w.heap.size<=x):=fun x hx=>by
    rcases hx with hx|hx
    ·have h6:=(kG.o x hx).1;exact⟨by omega,.inl hx⟩
    ·exact⟨by omega,.inr (by omega)⟩
   exact Aw.of (k:=21) (n:=n) (fs:=[]) (vs:=[]) (A':=B) (c':=d) (A'':=C) (c'':=e) kQ.o (kN.o.but hJ hk) ⟨b1,o1,⟨r1.le,r1.big,r1.none,fun h=>absurd h (by simp)⟩,fun i h=>absurd h (by simp)⟩ ⟨b2,o2,⟨r2.le,r2.big,r2.none,fun h=>absurd h (by simp)⟩,fun i h=>absurd h (by simp)⟩
  ·exact (kP.o.but hJ (fun e=>by have e:sb=g:=e;omega) (fun x h=>.inl (.inr (.inl h))) fun x hx e=>by have h6:=(kG.o x hx).1;have e:x=g:=e;omega).more fun x h=>.inl (.inl h)
 ·rw[show (true && decide (n0=s))=false by simp[hq],if_neg (by decide)]at lk;go_upto_region 11 with fail
  clear c0 c1 lk hz x0 x1 x2 x3 x4 x5;rw[<-aG.o];obtain⟨x0,x1,x2,x3,x4,x5⟩:=HX.o w2 aB.o;go_upto_region 12 with fail
  clear x0 x1 x2 x3 x4 x5;rw[<-aH.o,<-aD.o];obtain⟨x0,x1,x2,x3,x4,x5⟩:=HX.o w3 hI.o;go_upto_region 30 with fail
  go_wp2_with fail;refine KF.o.mono ?_;rintro r w5 ⟨rfl,A',c',kF,hY,hW,kB,hV⟩;have hA:Z9 (Ad (fun x=>x=sb\/x=wk) w1 w5):=Hd (hI.o.trans hV fun x h=>by have h1:=hB.o;rcases h with h|h|h;exact .inl (.inl h);exact .inl (.inr h);exact .inr (by omega));have kR:=Hd kF;have kN:=Hd hY;have kM:=Hd hW;have kP:=Hd kB;have rb:=HY.o _ hA.o;clear kF hY hW kB hV KF x0 x1 x2 x3 x4 x5;obtain⟨x0,x1,x2,x3,x4,x5⟩:=D4 kR.o;obtain⟨q0,q1,q2,q3,q4,q5,z0,z1,z2,z3,z4,z5⟩:=Je rb;have RBX:=Hd rb;clear rb;go_wp2_with fail;obtain⟨r0,r1,r2,r3,r4,r5⟩:=D4 (Cd RBX.o (.int .i64 21) (.string s) (.int .i64 n) ((.slice A' 4 c')) (.slice B 0 d) (.slice C 0 e));clear q0 q1 q2 q3 q4 q5 z0 z1 z2 z3 z4 z5;refine bodyPost_ret (v:=.agg #[.int .i64 21,.string s,.int .i64 n,(.slice A' 4 c'),.slice B 0 d,.slice C 0 e]) (by simp[results,Tryz.results43,go_sem,r0,r1,r2,r3,r4,r5]) rfl ?_;clear r0 r1 r2 r3 r4 r5;have hJ:=Cr w5 g (.int .i64 21) (.string s) (.int .i64 n) ((.slice A' 4 c')) (.slice B 0 d) (.slice C 0 e);have h1:=HCN.o;have h2:=kO.o;have h3:=HG.o;have h4:=hB.o;have h5:=hN.o;refine hQ.o _ _ ⟨[.int .i64 21,.string s,.int .i64 n,(.slice A' 4 c'),.slice B 0 d,.slice C 0 e],rfl,?_,by rw[<-h1];exact hJ.up (by show ¬ wk=g;omega) kM.o,?_,Dx hP.o hA.o HG.o hJ⟩
  ·rw[aE.o];obtain⟨b1,o1,r1,-⟩:=aC.o _ hA.o;obtain⟨b2,o2,r2,-⟩:=aF.o _ hA.o;have hk:∀x,K x\/w3.heap.size<=x->¬ x=g/\(K x\/w.heap.size<=x):=fun x hx=>by
    rcases hx with hx|hx
    ·have h6:=(kG.o x hx).1;exact⟨by omega,.inl hx⟩
    ·exact⟨by omega,.inr (by omega)⟩
   exact Aw.of (k:=21) (n:=n) (fs:=[]) (vs:=[]) (A':=B) (c':=d) (A'':=C) (c'':=e) kQ.o (kN.o.but hJ hk) ⟨b1,o1,⟨r1.le,r1.big,r1.none,fun h=>absurd h (by simp)⟩,fun i h=>absurd h (by simp)⟩ ⟨b2,o2,⟨r2.le,r2.big,r2.none,fun h=>absurd h (by simp)⟩,fun i h=>absurd h (by simp)⟩
  ·exact (kP.o.but hJ (fun e=>by have e:sb=g:=e;omega) (fun x h=>.inl (.inr (.inl h))) fun x hx e=>by have h6:=(kG.o x hx).1;have e:x=g:=e;omega).more fun x h=>.inl (.inl h)
theorem Uy {ps:List Ty}(h:ps.length=2):∃p0 p1,ps=[p0,p1]:=by
 match ps,h with
 | [a,b],_=>exact⟨a,b,rfl⟩
theorem Rv {ps:List Ty}(h:ps.length=4):∃p0 p1 p2 p3,ps=[p0,p1,p2,p3]:=by
 match ps,h with
 | [a,b,c,d],_=>exact⟨a,b,c,d,rfl⟩
theorem Oj {x s:Z8}{n:Int}{p0 p1:Ty}:Bp x (.mk 20 s n [p0,p1] [] [])=(Bp x p0 || (!decide (s=x) && Bp x p1)):=by
 rw[Dq];simp[Dn,Gp,Jc,E9,Cz]
theorem Ω {Cc:Prop}{n0:Z8}{u:Ty}(hT:Aj u=true/\Dk u=true/\Am u<=5000) (t:Ty):Ej n0 u t=true->Jg Cc n0 u t:=by
 refine Ty.ind (C:=fun t=>Ej n0 u t=true->Jg Cc n0 u t) (fun k s n ps fs vs hp hf hv hR=>?_) t;obtain⟨c1,c2,c3,c4⟩:=X6 hR;obtain⟨d1,d2,d3,d4⟩:=X7 c1;have ihp:∀p∈ps,Jg Cc n0 u p:=fun p h=>hp p h (c3 p h);have ihf:∀f∈fs,Jg Cc n0 u f.2.2:=fun f h=>hf f h (c4 f h);have ihv:∀v∈vs,∀b∈v.2,Jg Cc n0 u b:=fun v h b hb=>hv v h b hb (c2 v h b hb);intro K Z wk sb nd w bp op m act a ha hD hK hE hS hJ hC hI hG hH hF hB hA
 cases act with
 | false=>exact U5 ha hD hK hE hS hC hG hH hF
 | true=>
  have hA:=hA rfl;obtain⟨l1,l2,l3,l4⟩:=D5 hB.1;by_cases hQ:k=16/\s=n0
  ·obtain⟨rfl,rfl⟩:=hQ;refine δ ha hD hK hE hS hC hG hH hF hB.1 (hA.elim And.left fun h=>?_);rw[Dq]at h;simp at h
  by_cases hP:k=15
  ·subst hP;obtain⟨-,rfl,rfl,rfl,rfl,-⟩:=Lq hB.1;exact R6 ha hD hK hE hS hJ hC hI hG hH hF hB hA ihp
  by_cases hO:k=14
  ·subst hO;obtain rfl:ps=[]:=List.eq_nil_of_length_eq_zero (l3 rfl);obtain rfl:vs=[]:=List.eq_nil_of_length_eq_zero (l2 (by decide));refine Oy ha hD hK hE hS hJ hC hI hG hH hF hB hA (fun f hV _=>hA.imp id fun h=>?_) ?_ ihf
   ·rw[Dq]at h;rw[Bool.eq_false_iff];intro e;rw[show Jc n0 fs=true from List.any_eq_true.2 ⟨f,hV,e⟩]at h;simp[E9]at h
   ·rw[Eu,if_neg (by simp),if_neg (by decide)];rfl
  by_cases hN:k=13
  ·subst hN;obtain rfl:fs=[]:=List.eq_nil_of_length_eq_zero (l1 (by decide));refine U4 ha hD hK hE hS hJ hC hI hG hH hF hB hA hT (fun h1 h2 x hx=>?_) ihp ihv;rw[Ge]at h2;obtain⟨v,hX,rfl⟩:=List.mem_map.1 hx;exact d1 h2 h1 v hX
  by_cases hL:k=20
  ·subst hL;obtain rfl:fs=[]:=List.eq_nil_of_length_eq_zero (l1 (by decide));obtain rfl:vs=[]:=List.eq_nil_of_length_eq_zero (l2 (by decide));have hl:ps.length=2:=by
    have h4:=Dg hB.1;rw[show Ak 20=⟨true,true,false,false,2,2,true⟩ from rfl]at h4;unfold Ao at h4;simp only[Bool.and_eq_true,Bool.or_eq_true,decide_eq_true_eq,beq_iff_eq]at h4;omega
   obtain⟨p0,p1,rfl⟩:=Uy hl;have hU:Bp n0 (.mk 20 s n [p0,p1] [] [])=(Bp n0 p0 || (!decide (s=n0) && Bp n0 p1)):=Oj;refine Ox ha hD hK hE hS hJ hC hI hG hH hF hB hA hT (fun h1 h2 x hx=>?_) (fun _=>hA.imp id fun h=>?_) (fun h0=>hA.imp id fun h=>?_) ⟨ihp p0 (by simp),ihp p1 (by simp)⟩
   ·obtain rfl:x=s:=by simpa using hx
    exact d2 rfl (fun e=>by rw[e]at h2;simp[Dc]at h2) h1
   ·rw[hU,Bool.or_eq_false_iff]at h;exact h.1
   ·rw[hU,Bool.or_eq_false_iff]at h;rw[Bool.and_eq_true]at h0;have h5:decide (s=n0)=false:=(by have:=h0.2;simpa [Dc] using this);rw[h5]at h;simpa using h.2
  by_cases hM:k=21
  ·subst hM;obtain rfl:fs=[]:=List.eq_nil_of_length_eq_zero (l1 (by decide));obtain rfl:vs=[]:=List.eq_nil_of_length_eq_zero (l2 (by decide));have hl:ps.length=4:=by
    have h4:=Dg hB.1;rw[show Ak 21=⟨true,true,false,false,4,4,true⟩ from rfl]at h4;unfold Ao at h4;simp only[Bool.and_eq_true,Bool.or_eq_true,decide_eq_true_eq,beq_iff_eq]at h4;omega
   obtain⟨p0,p1,p2,p3,rfl⟩:=Rv hl;refine U3 ha hD hK hE hS hJ hC hI hG hH hF hB hA hT (fun hn h1 h2 x hx=>?_) (fun _ h1 h2 x hx=>d4 rfl h2 h1 x hx) ihp;obtain rfl:x=s:=by simpa using hx
   exact d3 rfl hn (fun e=>by rw[e]at h2;simp[Dc]at h2) h1
  obtain rfl:fs=[]:=List.eq_nil_of_length_eq_zero (l1 hO);obtain rfl:vs=[]:=List.eq_nil_of_length_eq_zero (l2 hN);refine R4 ha hD hK hE hS hJ hC hI hG hH hF hB hA ⟨hN,hO,hP,hL,hM⟩ (fun e h=>hQ ⟨h,e.symm⟩) (fun p hW _=>hA.imp id fun h=>Rm hL hM h p hW) (O3 hP hL hM fun e h=>hQ ⟨h,e.symm⟩) ihp
