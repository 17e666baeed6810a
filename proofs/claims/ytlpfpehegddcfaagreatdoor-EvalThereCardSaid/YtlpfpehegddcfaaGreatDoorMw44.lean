import Derived.Test.YtlpfpehegddcfaaGreatDoorMw38
import Derived.Test.YtlpfpehegddcfaaGreatDoorMw40
import Derived.Test.YtlpfpehegddcfaaGreatDoorMw42
import Derived.Test.YtlpfpehegddcfaaGreatDoorMw43
namespace Go.Proofs.YtlpfpehegddcfaaGreatDoor
set_option maxRecDepth 100000
set_option maxHeartbeats 64000000
open Go.RowKit
theorem Qs {Cc:Prop}{n0:Z8}{u:Ty}{K Z:Nat->Prop}{wk sb nd:Nat}{w:World}{bp op a g2:Nat}{m:Option Nat}{n:Int}{s:Z8}{ps:List Ty}{vs:Bw}{A B C:Option Addr}{c d e:Nat}
  (hH:∀wx,Ad (fun x=>x=sb\/x=wk\/x=g2) w wx->wx.cell? ⟨bp,op+3,none⟩=some (.slice A ps.length c)/\wx.cell? ⟨bp,op+5,none⟩=some (.slice C vs.length e)) (hP:Bh K w ps A c) (hV:Dd K w vs C e) (hK:∀x,K x->x<w.heap.size/\x≠sb/\x≠wk/\x≠g2) (hE:∀wx,Ad (fun x=>x=sb\/x=wk\/x=g2) w wx->Ct wk sb n0 wx m true) (hS:Cg K Z w sb u nd) (hF:Z sb) (hG:Z wk) (hC:Z g2) (hD:∀x,Z x->x<w.heap.size) (hO:w.heap[wk]?=some (.cells #[.int .i64 (a:Int)] 85 (0,0))) (hQ:wk≠sb) (hM:g2≠sb/\g2≠wk) (hR:w.heap[g2]?=some (.cells #[.int .i64 13,.string s,.int .i64 n,.slice A ps.length c,.slice B 0 d,.slice C vs.length e] 26 (0,0))) (hI:a+(Au ps+Br vs)<=4096) (hJ:∀p∈ps,Ai p=true/\Dy p=true) (ihp:∀p∈ps,M1 Cc n0 u p) (hW:vs.length<=3518437208780) (hU:∀v∈vs,∀b∈v.2,Ai b=true/\Dy b=true) (ihv:∀v∈vs,∀b∈v.2,M1 Cc n0 u b) (hT:Ai u=true/\Dy u=true/\Am u<=5000) (hA:Bx n0 (Fe ps vs)=true->Dp (vs.map (·.1)) n0=false->∀x∈vs.map (·.1),Bx x u=false) (hN:(nd=1/\Am u=1/\Cc)\/Bx n0 (.mk 13 s n ps [] vs)=false) :
  Calls Tryz.prog 82 #[.pointer (some ⟨wk,0,none⟩),.pointer (some ⟨bp,op,none⟩),.pointer (some ⟨g2,0,none⟩),.map m] w (fun r w'=>r=.returned (.tuple #[])/\∃A' c' C' e',w'.heap[g2]?=some (.cells #[.int .i64 13,.string s,.int .i64 n,(.slice A' ps.length c'),.slice B 0 d,(.slice C' vs.length e')] 26 (0,0))/\Bh (fun x=>K x\/w.heap.size<=x) w' (ps.map (fun p=>if (Fq true (vs.map (·.1)) n0 (Fe ps vs))=true then Bg n0 u p else p)) A' c'/\Dd (fun x=>K x\/w.heap.size<=x) w' (vs.map (fun v:Z8×List Ty=>(v.1,v.2.map (fun p=>if (Fq true (vs.map (·.1)) n0 (Fe ps vs))=true then Bg n0 u p else p)))) C' e'/\w'.heap[wk]?=some (.cells #[.int .i64 ((a+(Au ps+Br vs):Nat):Int)] 85 (0,0))/\Cg K Z w' sb u nd/\Ad (fun x=>x=sb\/x=wk\/x=g2) w w'):=by
 have hL:Bx n0 (.mk 13 s n ps [] vs)=(!Ff vs n0 && (It n0 ps || Mh n0 vs)):=by
  rw[Fd];have e1:((13:Int) == 16 && decide (s=n0))=false:=by simp
  have e2:Ox n0 []=false:=rfl;rw[e1,e2,Jg (fun i=>Ix (by decide) (by decide) i),Bool.false_or,Bool.or_false,Bool.or_comm]
 by_cases hB:vs=[]
 ·subst hB;have e:(Fq true (([]:Bw).map (·.1)) n0 (Fe ps ([]:Bw)))=true:=by unfold Fq;simp
  rw[e];refine Ui hH hP hV hK hE hS hF hG hC hD hO hQ hM hR hI hJ ihp rfl fun p hp _=>hN.imp id fun h=>?_;rw[hL]at h;simp only[Ff,List.any_nil,Bool.not_false,Bool.true_and,Bool.or_eq_false_iff]at h;rw[Bool.eq_false_iff];intro e;rw[show It n0 ps=true from List.any_eq_true.2 ⟨p,hp,e⟩]at h
  cases h.1
 ·have h0:0<vs.length:=List.length_pos_iff.2 hB;have e:(Fq true (vs.map (·.1)) n0 (Fe ps vs))=(Bx n0 (Fe ps vs) && !Dp (vs.map (·.1)) n0):=by
   unfold Fq;have:(vs.map (·.1)).isEmpty=false:=by
    cases vs with
    | nil=>exact absurd rfl hB
    | cons a l=>rfl
   rw[this];rfl
  rw[e];refine Uj hH hP hV hK hE hS hF hG hC hD hO hQ hM hR hI hJ ihp h0 hW hU ihv hT hA fun h=>hN.elim id fun h2=>?_;rw[hL,Jj]at *;rw[V8]at h;rw[Bool.and_eq_true]at h;rw[h.1,h.2]at h2
  cases h2
theorem Jcs {n0:Z8}{u:Ty}{n:Int}{s:Z8}{ps:List Ty}{vs:Bw}(hp:∀p∈ps,Ai p=true) (hv:∀v∈vs,∀b∈v.2,Ai b=true):Bg n0 u (.mk 13 s n ps [] vs)=.mk 13 s n (ps.map (fun p=>if (Fq true (vs.map (·.1)) n0 (Fe ps vs))=true then Bg n0 u p else p)) [] (vs.map (fun v:Z8×List Ty=>(v.1,v.2.map (fun p=>if (Fq true (vs.map (·.1)) n0 (Fe ps vs))=true then Bg n0 u p else p)))):=by
 rw[Fb,if_neg (by simp),if_neg (by decide)];have hA:(Fq true (vs.map (·.1)) n0 (Fe ps vs))=(vs.isEmpty || (Bx n0 (Fe ps vs) && !Ff vs n0)):=by
  unfold Fq;rw[Jj,Bool.true_and]
  cases vs <;> rfl
 rw[hA];by_cases hi:Ff vs n0=true
 ·have h1:vs.isEmpty=false:=by
   cases vs with
   | nil=>cases hi
   | cons a l=>rfl
  rw[h1,hi,Lz (cut:=fun i=>true || Dz 13 s n ps i n0) fun i=>rfl];have e3:(vs.map fun v=>(v.1,v.2.map fun b=>if true=true then b else Bg n0 u b))=vs:=by
   refine (List.map_congr_left (g:=id) fun v _=>?_).trans (List.map_id _);simp
  rw[e3];simp
 ·rw[Bool.not_eq_true]at hi;rw[hi,Ly fun i=>by rw[Ix (by decide) (by decide)];rfl]
  cases hc:(vs.isEmpty || (Bx n0 (Fe ps vs) && !false)) with
  | true=>simp
  | false=>
   rw[Bool.or_eq_false_iff,Bool.not_false,Bool.and_true,V8,Bool.or_eq_false_iff]at hc;have h1:∀p∈ps,Bg n0 u p=p:=fun p h=>Es n0 u p (hp p h) (Bool.eq_false_iff.2 fun e=>by
    have:=hc.2.1;rw[show It n0 ps=true from List.any_eq_true.2 ⟨p,h,e⟩]at this
    cases this)
   have h2:∀v∈vs,∀b∈v.2,Bg n0 u b=b:=fun v h b hb=>Es n0 u b (hv v h b hb) (Bool.eq_false_iff.2 fun e=>by
    have:=hc.2.2;rw[show Mh n0 vs=true from List.any_eq_true.2 ⟨v,h,List.any_eq_true.2 ⟨b,hb,e⟩⟩]at this
    cases this)
   have e1:ps.map (Bg n0 u)=ps.map fun p=>if false=true then Bg n0 u p else p:=List.map_congr_left fun p h=>by rw[h1 p h];simp
   have e2:(vs.map fun v=>(v.1,v.2.map fun b=>if false=true then b else Bg n0 u b))=vs.map fun v=>(v.1,v.2.map fun p=>if false=true then Bg n0 u p else p):=List.map_congr_left fun v h=>by
    refine congrArg (Prod.mk v.1) (List.map_congr_left fun b hb=>?_);simp[h2 v h b hb]
   rw[e1,e2];rfl
theorem Jen {Cc:Prop}{n0:Z8}{u:Ty}{K Z:Nat->Prop}{wk sb nd:Nat}{w:World}{bp op a:Nat}{m:Option Nat}{n:Int}{s:Z8}{ps:List Ty}{vs:Bw}(ha:Dm K w (.mk 13 s n ps [] vs) bp op) (aF:bp≠sb/\bp≠wk) (hK:∀x,K x->x<w.heap.size/\x≠sb/\x≠wk) (hE:Ct wk sb n0 w m true) (hS:Cg K Z w sb u nd) (kC:Z sb) (hO:Z wk) (kB:∀x,Z x->x<w.heap.size) (kW:w.heap[wk]?=some (.cells #[.int .i64 (a:Int)] 85 (0,0))) (kF:wk≠sb) (aQ:a+Am (.mk 13 s n ps [] vs)<=4096) (kD:Ai (.mk 13 s n ps [] vs)=true/\Dy (.mk 13 s n ps [] vs)=true) (aI:(nd=1/\Am u=1/\Cc)\/Bx n0 (.mk 13 s n ps [] vs)=false) (aG:Ai u=true/\Dy u=true/\Am u<=5000) (hR:Bx n0 (Fe ps vs)=true->Dp (vs.map (·.1)) n0=false->∀x∈vs.map (·.1),Bx x u=false) (ihp:∀p∈ps,M1 Cc n0 u p) (ihv:∀v∈vs,∀b∈v.2,M1 Cc n0 u b) :
  Calls Tryz.prog 43 #[.pointer (some ⟨wk,0,none⟩),.pointer (some ⟨bp,op,none⟩),.map m] w (Ck n0 u K Z wk sb nd w true a (.mk 13 s n ps [] vs)):=by
 have aP:Am (.mk 13 s n ps [] vs)=1+(Au ps+Br vs):=by rw[B0];show 1+(Au ps+(Bm []+Br vs))=_;unfold Bm;simp
 obtain⟨gv1,gv2,gv3,-⟩:=Gc kD.2;have kS:∀p∈ps,Ai p=true/\Dy p=true:=fun p hp=>⟨D1 kD.1 p hp,gv3 p hp⟩;have kT:∀v∈vs,∀b∈v.2,Ai b=true/\Dy b=true:=fun v hv b hb=>⟨Kk kD.1 v hv b hb,gv2 v hv b hb⟩;obtain⟨PO,kP⟩:∃PO:Ending->World->Prop,PO=Ck n0 u K Z wk sb nd w true a (.mk 13 s n ps [] vs):=⟨_,rfl⟩;have hL:Z9 (∀e w',(∃rs:List Value,e=.returned (.agg rs.toArray)/\An (fun x=>K x\/w.heap.size<=x) w' (Bg n0 u (.mk 13 s n ps [] vs)) rs/\w'.heap[wk]?=some (.cells #[.int .i64 ((a+Am (.mk 13 s n ps [] vs):Nat):Int)] 85 (0,0))/\Cg K Z w' sb u nd/\Ad (fun x=>x=sb\/x=wk) w w')->PO e w'):=Hd fun e w' h=>by
  rw[kP];unfold Ck;rw[if_pos rfl];exact h
 rw[<-kP];have kU:wk<w.heap.size:=(Array.getElem?_eq_some_iff.1 kW).1;have aJ:sb<w.heap.size:=kB sb kC;refine Iz ha aF hK ⟨kU,aJ⟩ fun A c B d C e w1 g h=>?_;obtain⟨HX,HY,HB1,HS1,HG,HW1,HP,kY,aO,kL,kJ,aT⟩:=h;have kG:=Hd (Ay HB1.o kU kW);have kA:=Hd hK;have aU:=Hd kF;have aV:=Hd hO;have HE:=Hd hE;have kO:=hE.but (Ad.of_below (O:=fun _=>False) HB1.o) fun _ h=>h.elim;obtain⟨z,hz,aK⟩:=kO.len;have f1:¬ z=0:=of_decide_eq_false aK;have lk:=kO.look s (Nat.le_trans kL.o (by decide));obtain⟨n1,aH⟩:∃n1,n1=a+1:=⟨_,rfl⟩;obtain⟨w2,hX⟩:∃x,x=w1.setCell ⟨wk,0,none⟩ (.int .i64 ((a:Int)+1)):=⟨_,rfl⟩;have hJ:Ad (fun x=>x=wk) w1 w2:=by rw[hX];exact (Ad.refl (fun x=>x=wk) w1).put1 0 _
 have kR:w2.heap[wk]?=some (.cells #[.int .i64 (n1:Int)] 85 (0,0)):=by rw[hX,aH];exact C0 kG.o 0 _
 obtain⟨g2,kE⟩:∃x,x=w2.heap.size:=⟨_,rfl⟩;have kV:w2.heap.size=w1.heap.size:=by rw[hX];simp
 obtain⟨w3,hY⟩:∃x,x=w2.alloc (.cells #[.int .i64 13,.string s,.int .i64 n,.slice A ps.length c,.slice B 0 d,.slice C vs.length e] 26):=⟨_,rfl⟩;have kQ:Below w2.heap.size w2 w3:=by rw[hY];exact (Below.refl _ _).alloc (Nat.le_refl _) _
 have hG:Ad (fun x=>x=wk) w1 w3:=hJ.then kQ;have hF:Ad (fun x=>x=wk) w w3:=(Ad.of_below (O:=fun x=>x=wk) HB1.o).trans hG fun x h=>.inl h;have hC:Ad (fun x=>x=sb\/x=wk) w1 w3:=hG.mono fun x h=>.inr h;have aL:Z9 (w3.heap[wk]?=some (.cells #[.int .i64 (n1:Int)] 85 (0,0))):=Hd (Ay kQ (Array.getElem?_eq_some_iff.1 kR).1 kR);have aN:Z9 (Cg K (fun x=>Z x\/x=g\/x=g2) w3 sb u nd):=Hd ((hS.more fun x h=>h.elim .inl fun e=>.inr (by have h1:=HG.o;have h2:=HS1.o;omega)).but hF (fun h=>kF h.symm) (fun x h=>.inl (.inl (h ▸ hO))) fun x hx=>(hK x hx).2.2);have aR:Z9 (Ct wk sb n0 w3 m true):=Hd (hE.but hF fun x h=>.inl h);have hN:Z9 (w.heap.size<w3.heap.size/\g<w3.heap.size):=Hd (by have h1:=HS1.o;have h2:=HG.o;have h3:=hC.size;omega);have HZ:Z9 ((Z sb/\Z wk)/\∀x,Z x->x<w.heap.size):=Hd ⟨⟨kC,hO⟩,kB⟩;have aB:=Hd hX;have kX:Z9 (Ad (fun x=>x=sb\/x=wk) w1 w2):=Hd (hJ.mono fun x h=>.inr h);have aC:=Hd hY;have hH:=Hd hC;have c0:=Ch kG.o 0;have c1:=Lib.frozen_of_heap kG.o 0;simp only[List.getElem?_toArray,List.getElem?_cons_zero]at c0;have t1:decide ((4096:Int)<(a:Int))=false:=decide_eq_false (by omega);have t1':¬ (4096:Int)<(a:Int):=by omega
 have t1'':¬ 4096<a:=by omega
 obtain⟨x0,x1,x2,x3,x4,x5⟩:=HX.o w1 (Ad.refl _ _);have hV:w3.heap.size=g2+1:=by rw[hY,kE];simp
 have aM:Z9 (w3.heap[g2]?=some (.cells #[.int .i64 13,.string s,.int .i64 n,.slice A ps.length c,.slice B 0 d,.slice C vs.length e] 26 (0,0))):=Hd (by rw[hY,kE];exact heap_alloc_new w2 _);have kZ:=Hd kE;have hI:=Hd hV;have hA:Z9 (w1.heap.size<=g2/\g<g2):=Hd (by have h1:=HS1.o;omega);have hM:Z9 (¬ (g2=sb\/g2=wk)):=Hd (by have h1:=kJ.o;have h2:=hA.o;omega);have aS:Z9 (∀wx,Ad (fun x=>x=sb\/x=wk) w wx->Ct wk sb n0 wx m true):=Hd fun wx hx=>hE.but hx fun x h=>h.elim (fun e=>.inr (.inl e)) .inl;have aE:∀wx,Ad (fun x=>x=sb\/x=wk\/x=g2) w3 wx->Ad (fun x=>x=sb\/x=wk) w1 wx:=fun wx hx=>hC.trans hx fun x h=>by have h1:=hA.o;rcases h with h|h|h;exact .inl (.inl h);exact .inl (.inr h);exact .inr (by omega)
 have aD:=Qs (K:=K) (Z:=fun x=>Z x\/x=g\/x=g2) (wk:=wk) (sb:=sb) (nd:=nd) (w:=w3) (bp:=bp) (op:=op) (a:=n1) (g2:=g2) (m:=m) (n:=n) (s:=s) (ps:=ps) (vs:=vs) (A:=A) (B:=B) (C:=C) (c:=c) (d:=d) (e:=e) (n0:=n0) (u:=u)
  (fun wx hx=>by have h:=HX.o wx (aE wx hx);exact⟨h.2.2.2.1,h.2.2.2.2.2⟩) (HP.o w3 hC) (aO.o w3 hC) (fun x hx=>⟨Nat.lt_trans (hK x hx).1 hN.o.1,(hK x hx).2.1,(hK x hx).2.2,by have h1:=(hK x hx).1;have h2:=hA.o;have h3:=HG.o;omega⟩) (fun wx hx=>by
   refine Ct.butM (O:=(fun x=>x=sb\/x=wk\/x=g2)) hE ((((Ad.of_below (O:=(fun x=>x=sb\/x=wk\/x=g2)) HB1.o).trans hC fun x h=>.inl (h.imp id .inl))).trans hx fun x h=>.inl h) fun x h=>?_;rcases h with h|h|h
   ·exact .inr (.inl h)
   ·exact .inl h
   ·exact .inr (.inr (.inl (by have h2:=hA.o;have h3:=HG.o;omega)))) aN.o (.inl kC) (.inl hO) (.inr (.inr rfl)) (fun x h=>by
   have h1:=hN.o;have h2:=hI.o;rcases h with h|h|h
   ·have:=kB x h;omega
   ·omega
   ·omega) aL.o kF ⟨by have:=hM.o;omega,by have:=hM.o;omega⟩ aM.o (by omega) kS ihp gv1 kT ihv aG hR aI
 have KF:=Hd aD;have aA:Z9 (Bg n0 u (.mk 13 s n ps [] vs)=_):=Hd (Jcs (n0:=n0) (u:=u) (n:=n) (s:=s) (fun p hp=>(kS p hp).1) fun v hv b hb=>(kT v hv b hb).1);have HCN:Z9 (n1+(Au ps+Br vs)=a+Am (.mk 13 s n ps [] vs)):=Hd (by omega);clear ha aF hK hE hS kC hO kB kW kF aQ kU aJ kP aK kO kD aI aG hR ihp ihv aP aH hX hJ kR hY kQ hG hF hC kV hV kE gv1 gv2 gv3 kS kT aE aD;go_enter Tryz.func43,Tryz.ntmps43;go_upto_region 1 with fail
 rw[<-HW1.o,<-HG.o];by_cases hq:n0=s
 ·rw[show (true && decide (n0=s))=true by simp[hq],if_pos rfl]at lk;go_upto_region 11 with fail
  clear c0 c1 lk hz x0 x1 x2 x3 x4 x5;rw[<-aB.o];obtain⟨x0,x1,x2,x3,x4,x5⟩:=HX.o w2 kX.o;go_upto_region 12 with fail
  clear x0 x1 x2 x3 x4 x5;rw[<-aC.o,<-kZ.o];obtain⟨x0,x1,x2,x3,x4,x5⟩:=HX.o w3 hH.o;go_upto_region 24 with fail
  go_wp2_with fail;refine KF.o.mono ?_;rintro r w5 ⟨rfl,A',c',C',e',hZ,hT,hW,hQ,hU,hP⟩;have hB:Z9 (Ad (fun x=>x=sb\/x=wk) w1 w5):=Hd (hH.o.trans hP fun x h=>by have h1:=hA.o;rcases h with h|h|h;exact .inl (.inl h);exact .inl (.inr h);exact .inr (by omega));have kN:=Hd hZ;have kI:=Hd hT;have kM:=Hd hW;have kH:=Hd hQ;have kK:=Hd hU;have rb:=HY.o _ hB.o;clear hZ hT hW hQ hU hP KF x0 x1 x2 x3 x4 x5;obtain⟨x0,x1,x2,x3,x4,x5⟩:=Dw kN.o;obtain⟨q0,q1,q2,q3,q4,q5,z0,z1,z2,z3,z4,z5⟩:=Hr rb;have RBX:=Hd rb;clear rb;go_wp2_with fail;obtain⟨r0,r1,r2,r3,r4,r5⟩:=Dw (Bt RBX.o (.int .i64 13) (.string s) (.int .i64 n) ((.slice A' ps.length c')) (.slice B 0 d) ((.slice C' vs.length e')));clear q0 q1 q2 q3 q4 q5 z0 z1 z2 z3 z4 z5;refine bodyPost_ret (v:=.agg #[.int .i64 13,.string s,.int .i64 n,(.slice A' ps.length c'),.slice B 0 d,(.slice C' vs.length e')]) (by simp[results,Tryz.results43,go_sem,r0,r1,r2,r3,r4,r5]) rfl ?_;clear r0 r1 r2 r3 r4 r5;have hD:=Di w5 g (.int .i64 13) (.string s) (.int .i64 n) ((.slice A' ps.length c')) (.slice B 0 d) ((.slice C' vs.length e'));have h1:=HCN.o;have h2:=kJ.o;have h3:=HG.o;have h4:=hA.o;have h5:=hI.o;refine hL.o _ _ ⟨[.int .i64 13,.string s,.int .i64 n,(.slice A' ps.length c'),.slice B 0 d,(.slice C' vs.length e')],rfl,?_,by rw[<-h1];exact hD.up (by show ¬ wk=g;omega) kH.o,?_,D3 HB1.o hB.o HG.o hD⟩
  ·rw[aA.o];obtain⟨b1,o1,r1,-⟩:=kY.o _ hB.o;have hk:∀x,K x\/w3.heap.size<=x->¬ x=g/\(K x\/w.heap.size<=x):=fun x hx=>by
    rcases hx with hx|hx
    ·have h6:=(kA.o x hx).1;exact⟨by omega,.inl hx⟩
    ·exact⟨by omega,.inr (by omega)⟩
   have hr:=An.of (k:=13) (n:=n) (fs:=[]) (A':=B) (c':=d) kL.o (kI.o.but hD hk) ⟨b1,o1,⟨r1.le,r1.big,r1.none,fun h=>absurd h (by simp)⟩,fun i h=>absurd h (by simp)⟩ (kM.o.but hD hk);rw[List.length_map,List.length_map]at hr;exact hr
  ·exact (kK.o.but hD (fun e=>by have e:sb=g:=e;omega) (fun x h=>.inl (.inr (.inl h))) fun x hx e=>by have h6:=(kA.o x hx).1;have e:x=g:=e;omega).more fun x h=>.inl (.inl h)
 ·rw[show (true && decide (n0=s))=false by simp[hq],if_neg (by decide)]at lk;go_upto_region 11 with fail
  clear c0 c1 lk hz x0 x1 x2 x3 x4 x5;rw[<-aB.o];obtain⟨x0,x1,x2,x3,x4,x5⟩:=HX.o w2 kX.o;go_upto_region 12 with fail
  clear x0 x1 x2 x3 x4 x5;rw[<-aC.o,<-kZ.o];obtain⟨x0,x1,x2,x3,x4,x5⟩:=HX.o w3 hH.o;go_upto_region 24 with fail
  go_wp2_with fail;refine KF.o.mono ?_;rintro r w5 ⟨rfl,A',c',C',e',hZ,hT,hW,hQ,hU,hP⟩;have hB:Z9 (Ad (fun x=>x=sb\/x=wk) w1 w5):=Hd (hH.o.trans hP fun x h=>by have h1:=hA.o;rcases h with h|h|h;exact .inl (.inl h);exact .inl (.inr h);exact .inr (by omega));have kN:=Hd hZ;have kI:=Hd hT;have kM:=Hd hW;have kH:=Hd hQ;have kK:=Hd hU;have rb:=HY.o _ hB.o;clear hZ hT hW hQ hU hP KF x0 x1 x2 x3 x4 x5;obtain⟨x0,x1,x2,x3,x4,x5⟩:=Dw kN.o;obtain⟨q0,q1,q2,q3,q4,q5,z0,z1,z2,z3,z4,z5⟩:=Hr rb;have RBX:=Hd rb;clear rb;go_wp2_with fail;obtain⟨r0,r1,r2,r3,r4,r5⟩:=Dw (Bt RBX.o (.int .i64 13) (.string s) (.int .i64 n) ((.slice A' ps.length c')) (.slice B 0 d) ((.slice C' vs.length e')));clear q0 q1 q2 q3 q4 q5 z0 z1 z2 z3 z4 z5;refine bodyPost_ret (v:=.agg #[.int .i64 13,.string s,.int .i64 n,(.slice A' ps.length c'),.slice B 0 d,(.slice C' vs.length e')]) (by simp[results,Tryz.results43,go_sem,r0,r1,r2,r3,r4,r5]) rfl ?_;clear r0 r1 r2 r3 r4 r5;have hD:=Di w5 g (.int .i64 13) (.string s) (.int .i64 n) ((.slice A' ps.length c')) (.slice B 0 d) ((.slice C' vs.length e'));have h1:=HCN.o;have h2:=kJ.o;have h3:=HG.o;have h4:=hA.o;have h5:=hI.o;refine hL.o _ _ ⟨[.int .i64 13,.string s,.int .i64 n,(.slice A' ps.length c'),.slice B 0 d,(.slice C' vs.length e')],rfl,?_,by rw[<-h1];exact hD.up (by show ¬ wk=g;omega) kH.o,?_,D3 HB1.o hB.o HG.o hD⟩
  ·rw[aA.o];obtain⟨b1,o1,r1,-⟩:=kY.o _ hB.o;have hk:∀x,K x\/w3.heap.size<=x->¬ x=g/\(K x\/w.heap.size<=x):=fun x hx=>by
    rcases hx with hx|hx
    ·have h6:=(kA.o x hx).1;exact⟨by omega,.inl hx⟩
    ·exact⟨by omega,.inr (by omega)⟩
   have hr:=An.of (k:=13) (n:=n) (fs:=[]) (A':=B) (c':=d) kL.o (kI.o.but hD hk) ⟨b1,o1,⟨r1.le,r1.big,r1.none,fun h=>absurd h (by simp)⟩,fun i h=>absurd h (by simp)⟩ (kM.o.but hD hk);rw[List.length_map,List.length_map]at hr;exact hr
  ·exact (kK.o.but hD (fun e=>by have e:sb=g:=e;omega) (fun x h=>.inl (.inr (.inl h))) fun x hx e=>by have h6:=(kA.o x hx).1;have e:x=g:=e;omega).more fun x h=>.inl (.inl h)
theorem Zf {Cc:Prop}{n0:Z8}{u:Ty}{K Z:Nat->Prop}{wk sb nd:Nat}{w:World}{bp op a g2:Nat}{m:Option Nat}{n:Int}{s:Z8}{p0 p1 p2 p3:Ty}{A B C:Option Addr}{c d e:Nat}
  (hJ:∀wx,Ad (fun x=>x=sb\/x=wk\/x=g2) w wx->wx.cell? ⟨bp,op+1,none⟩=some (.string s)/\wx.cell? ⟨bp,op+2,none⟩=some (.int .i64 n)/\wx.cell? ⟨bp,op+3,none⟩=some (.slice A 4 c)) (hP:Bh K w [p0,p1,p2,p3] A c) (hK:∀x,K x->x<w.heap.size/\x≠sb/\x≠wk/\x≠g2) (hE:∀wx,Ad (fun x=>x=sb\/x=wk\/x=g2) w wx->Ct wk sb n0 wx m true) (hQ:m≠some g2) (hS:Cg K Z w sb u nd) (hH:Z sb) (hI:Z wk) (hF:Z g2) (hG:∀x,Z x->x<w.heap.size) (hT:w.heap[wk]?=some (.cells #[.int .i64 (a:Int)] 85 (0,0))) (hU:wk≠sb) (hO:g2≠sb/\g2≠wk) (hV:w.heap[g2]?=some (.cells #[.int .i64 21,.string s,.int .i64 n,.slice A 4 c,.slice B 0 d,.slice C 0 e] 26 (0,0))) (hL:a+Au [p0,p1,p2,p3]<=4096) (hM:∀p∈[p0,p1,p2,p3],Ai p=true/\Dy p=true) (ihp:∀p∈[p0,p1,p2,p3],M1 Cc n0 u p) (hN:Ai u=true/\Dy u=true/\Am u<=5000) {act1 act2:Bool} (hA:act1=if n=1 then Fq true [s] n0 (F7 [p0,p1,p2,p3]) else true) (hB:act2=Fq act1 (Bi p1) n0 p2) (hD:n=1->Bx n0 (F7 [p0,p1,p2,p3])=true->Dp [s] n0=false->∀x∈[s],Bx x u=false) (hC:act1=true->Bx n0 p2=true->Dp (Bi p1) n0=false->∀x∈Bi p1,Bx x u=false) (hR:((nd=1/\Am u=1/\Cc)\/Bx n0 p0=false)/\(act1=true->(nd=1/\Am u=1/\Cc)\/Bx n0 p1=false)/\(act2=true->(nd=1/\Am u=1/\Cc)\/Bx n0 p2=false)/\(act1=true->(nd=1/\Am u=1/\Cc)\/Bx n0 p3=false)) :
  Calls Tryz.prog 84 #[.pointer (some ⟨wk,0,none⟩),.pointer (some ⟨bp,op,none⟩),.pointer (some ⟨g2,0,none⟩),.map m] w (fun r w'=>r=.returned (.tuple #[])/\∃A' c',w'.heap[g2]?=some (.cells #[.int .i64 21,.string s,.int .i64 n,(.slice A' 4 c'),.slice B 0 d,.slice C 0 e] 26 (0,0))/\Bh (fun x=>K x\/w.heap.size<=x) w' [Bg n0 u p0,if act1=true then Bg n0 u p1 else p1,if act2=true then Bg n0 u p2 else p2,if act1=true then Bg n0 u p3 else p3] A' c'/\w'.heap[wk]?=some (.cells #[.int .i64 ((a+Au [p0,p1,p2,p3]:Nat):Int)] 85 (0,0))/\Cg K Z w' sb u nd/\Ad (fun x=>x=sb\/x=wk\/x=g2) w w'):=by
 by_cases hn:n=1
 ·rw[if_pos hn]at hA;exact Jfh hJ hP hK hE hQ hS hH hI hF hG hT hU hO hV hL hM ihp hN hA hB hn (hD hn) hC hR
 ·rw[if_neg hn]at hA;exact Jfg hJ hP hK hE hQ hS hH hI hF hG hT hU hO hV hL hM ihp hN hA hB hn hC hR
theorem Qr (x:Z8) (p0 p1 p2 p3:Ty):Bx x (F7 [p0,p1,p2,p3])=(Bx x p1 || ((!Dp (Bi p1) x && Bx x p2) || Bx x p3)):=by
 have h:F7 [p0,p1,p2,p3]=.mk 21 Bp 0 [E7 1,p1,p2,p3] [] []:=rfl;have e:Bx x (E7 1)=false:=by unfold E7;rw[Fd];simp[Mh,Fl,Ox,Ff]
 rw[h,Kl,e];simp
theorem M3 (x s:Z8) (t:Ty):Fq true [s] x t=(Bx x t && !decide (s=x)):=by
 unfold Fq;simp[Dp]
theorem Jcr {x:Z8}{u p0 p1 p2 p3:Ty}{n:Int}{s:Z8}{act1 act2:Bool}(h1:Ai p1=true) (h2:Ai p2=true) (h3:Ai p3=true) (hC:act1=if n=1 then Fq true [s] x (F7 [p0,p1,p2,p3]) else true) (hE:act2=Fq act1 (Bi p1) x p2) :
  Bg x u (.mk 21 s n [p0,p1,p2,p3] [] [])=.mk 21 s n [Bg x u p0,if act1=true then Bg x u p1 else p1,if act2=true then Bg x u p2 else p2,if act1=true then Bg x u p3 else p3] [] []:=by
 rw[Fb,if_neg (by simp),if_neg (by decide)];simp only[Er,List.map_nil];have e0:(Ff ([]:Bw) x || Dz 21 s n [p0,p1,p2,p3] 0 x)=false:=by simp[Ff,Dz]
 have e1:(Ff ([]:Bw) x || Dz 21 s n [p0,p1,p2,p3] (0+1) x)=((n == 1) && decide (s=x)):=by simp[Ff,Dz]
 have e2:(Ff ([]:Bw) x || Dz 21 s n [p0,p1,p2,p3] (0+1+1) x)=(((n == 1) && decide (s=x)) || Dp (Bi p1) x):=by simp[Ff,Dz,E5]
 have e3:(Ff ([]:Bw) x || Dz 21 s n [p0,p1,p2,p3] (0+1+1+1) x)=((n == 1) && decide (s=x)):=by simp[Ff,Dz]
 have hA:∀p:Ty,Ai p=true->(Bx x (F7 [p0,p1,p2,p3])=false->Bx x p=false)->(if ((n == 1) && decide (s=x))=true then p else Bg x u p)=if act1=true then Bg x u p else p:=fun p hp hG=>by
  rw[hC];by_cases hn:n=1
  ·rw[if_pos hn,M3];by_cases hs:s=x
   ·simp[hn,hs]
   ·rw[decide_eq_false hs];simp only[Bool.and_false,Bool.not_false,Bool.and_true];rw[if_neg (by decide)]
    cases hb:Bx x (F7 [p0,p1,p2,p3]) with
    | true=>rfl
    | false=>rw[Es x u p hp (hG hb)];rfl
  ·have hB:(n == 1)=false:=beq_eq_false_iff_ne.2 hn;rw[if_neg hn,hB];rfl
 have g0:(if (Ff ([]:Bw) x || Dz 21 s n [p0,p1,p2,p3] 0 x)=true then p0 else Bg x u p0)=Bg x u p0:=if_neg (by rw[e0];decide);have g1:=hA p1 h1 fun h=>by rw[Qr,Bool.or_eq_false_iff]at h;exact h.1
 have g3:=hA p3 h3 fun h=>by rw[Qr,Bool.or_eq_false_iff,Bool.or_eq_false_iff]at h;exact h.2.2
 have g2:(if (((n == 1) && decide (s=x)) || Dp (Bi p1) x)=true then p2 else Bg x u p2)=if act2=true then Bg x u p2 else p2:=by
  have hF:(Bi p1).isEmpty=true->Dp (Bi p1) x=false:=fun h=>by
   rw[List.isEmpty_iff]at h;rw[h];rfl
  rw[hE];unfold Fq;by_cases hi:Dp (Bi p1) x=true
  ·have he:(Bi p1).isEmpty=false:=Bool.eq_false_iff.2 fun e=>by rw[hF e]at hi;cases hi
   rw[hi,he];simp
  ·rw[Bool.not_eq_true]at hi;rw[hi,Bool.or_false];rw[hC];by_cases hn:n=1
   ·rw[if_pos hn,M3];by_cases hs:s=x
    ·simp[hn,hs]
    ·rw[decide_eq_false hs];simp only[Bool.and_false,Bool.not_false,Bool.and_true];rw[if_neg (by decide)]
     cases hb:Bx x (F7 [p0,p1,p2,p3]) with
     | true=>
      cases hf:Bx x p2 with
      | true=>simp
      | false=>rw[Es x u p2 h2 hf];simp
     | false=>
      have hD:=hb;rw[Qr,hi,Bool.or_eq_false_iff,Bool.or_eq_false_iff]at hD;have hf:Bx x p2=false:=(by simpa using hD.2.1);rw[Es x u p2 h2 hf];simp
   ·have hB:(n == 1)=false:=beq_eq_false_iff_ne.2 hn;rw[if_neg hn,hB]
    cases hf:Bx x p2 with
    | true=>simp
    | false=>rw[Es x u p2 h2 hf];simp
 have f1:=(congrArg (fun b:Bool=>if b=true then p1 else Bg x u p1) e1).trans g1;have f2:=(congrArg (fun b:Bool=>if b=true then p2 else Bg x u p2) e2).trans g2;have f3:=(congrArg (fun b:Bool=>if b=true then p3 else Bg x u p3) e3).trans g3;rw[g0,f1,f2,f3]
theorem Jem {Cc:Prop}{n0:Z8}{u:Ty}{K Z:Nat->Prop}{wk sb nd:Nat}{w:World}{bp op a:Nat}{m:Option Nat}{n:Int}{s:Z8}{p0 p1 p2 p3:Ty}(ha:Dm K w (.mk 21 s n [p0,p1,p2,p3] [] []) bp op) (aJ:bp≠sb/\bp≠wk) (hK:∀x,K x->x<w.heap.size/\x≠sb/\x≠wk) (hE:Ct wk sb n0 w m true) (hS:Cg K Z w sb u nd) (kH:Z sb) (hT:Z wk) (kG:∀x,Z x->x<w.heap.size) (kZ:w.heap[wk]?=some (.cells #[.int .i64 (a:Int)] 85 (0,0))) (kJ:wk≠sb) (aV:a+Am (.mk 21 s n [p0,p1,p2,p3] [] [])<=4096) (kV:Ai (.mk 21 s n [p0,p1,p2,p3] [] [])=true/\Dy (.mk 21 s n [p0,p1,p2,p3] [] [])=true) (aN:(nd=1/\Am u=1/\Cc)\/Bx n0 (.mk 21 s n [p0,p1,p2,p3] [] [])=false) (aK:Ai u=true/\Dy u=true/\Am u<=5000) (hL:n=1->Bx n0 (F7 [p0,p1,p2,p3])=true->Dp [s] n0=false->∀x∈[s],Bx x u=false) (hM:¬(n=1/\s=n0)->Bx n0 p2=true->Dp (Bi p1) n0=false->∀x∈Bi p1,Bx x u=false) (ihp:∀p∈[p0,p1,p2,p3],M1 Cc n0 u p) :
  Calls Tryz.prog 43 #[.pointer (some ⟨wk,0,none⟩),.pointer (some ⟨bp,op,none⟩),.map m] w (Ck n0 u K Z wk sb nd w true a (.mk 21 s n [p0,p1,p2,p3] [] [])):=by
 have aU:Am (.mk 21 s n [p0,p1,p2,p3] [] [])=1+Au [p0,p1,p2,p3]:=by rw[B0];show 1+(Au [p0,p1,p2,p3]+(Bm []+Br []))=_;unfold Bm Br;simp
 obtain⟨-,-,gv3,-⟩:=Gc kV.2;have hW:∀p∈[p0,p1,p2,p3],Ai p=true/\Dy p=true:=fun p hp=>⟨D1 kV.1 p hp,gv3 p hp⟩;obtain⟨act1,hC⟩:∃b:Bool,b=if n=1 then Fq true [s] n0 (F7 [p0,p1,p2,p3]) else true:=⟨_,rfl⟩
 obtain⟨act2,hD⟩:∃b:Bool,b=Fq act1 (Bi p1) n0 p2:=⟨_,rfl⟩;have aP:=Jcr (u:=u) (p0:=p0) (hW p1 (by simp)).1 (hW p2 (by simp)).1 (hW p3 (by simp)).1 hC hD;have hZ:act1=true->¬(n=1/\s=n0):=fun ha h=>by
  rw[hC,if_pos h.1,M3,Bool.and_eq_true,Bool.not_eq_true']at ha;exact of_decide_eq_false ha.2 h.2
 have hY:((nd=1/\Am u=1/\Cc)\/Bx n0 p0=false)/\(act1=true->(nd=1/\Am u=1/\Cc)\/Bx n0 p1=false)/\(act2=true->(nd=1/\Am u=1/\Cc)\/Bx n0 p2=false)/\(act1=true->(nd=1/\Am u=1/\Cc)\/Bx n0 p3=false):=by
  rcases aN with h|h
  ·exact⟨.inl h,fun _=>.inl h,fun _=>.inl h,fun _=>.inl h⟩
  ·rw[Kl,Bool.or_eq_false_iff]at h;obtain⟨h0,h⟩:=h;have kW:act1=true->Bx n0 p1=false/\(!Dp (Bi p1) n0 && Bx n0 p2)=false/\Bx n0 p3=false:=fun ha=>by
    have hc:((n == 1) && decide (s=n0))=false:=by
     rw[hC]at ha;by_cases hn:n=1
     ·rw[if_pos hn,M3,Bool.and_eq_true,Bool.not_eq_true']at ha;rw[ha.2,Bool.and_false]
     ·rw[show (n == 1)=false from beq_eq_false_iff_ne.2 hn];rfl
    rw[hc,Bool.not_false,Bool.true_and,Bool.or_eq_false_iff,Bool.or_eq_false_iff]at h;exact⟨h.1,h.2.1,h.2.2⟩
   refine⟨.inr h0,fun ha=>.inr (kW ha).1,fun ha=>.inr ?_,fun ha=>.inr (kW ha).2.2⟩;rw[hD]at ha;unfold Fq at ha;rw[Bool.and_eq_true]at ha;have h1:=(kW ha.1).2.1;have h2:Dp (Bi p1) n0=false:=by
    cases he:(Bi p1).isEmpty with
    | true=>rw[List.isEmpty_iff]at he;rw[he];rfl
    | false=>
     have h3:=ha.2;rw[he,Bool.false_or,Bool.and_eq_true,Bool.not_eq_true']at h3;exact h3.2
   rw[h2]at h1;simpa using h1
 obtain⟨PO,kS⟩:∃PO:Ending->World->Prop,PO=Ck n0 u K Z wk sb nd w true a (.mk 21 s n [p0,p1,p2,p3] [] []):=⟨_,rfl⟩;have hP:Z9 (∀e w',(∃rs:List Value,e=.returned (.agg rs.toArray)/\An (fun x=>K x\/w.heap.size<=x) w' (Bg n0 u (.mk 21 s n [p0,p1,p2,p3] [] [])) rs/\w'.heap[wk]?=some (.cells #[.int .i64 ((a+Am (.mk 21 s n [p0,p1,p2,p3] [] []):Nat):Int)] 85 (0,0))/\Cg K Z w' sb u nd/\Ad (fun x=>x=sb\/x=wk) w w')->PO e w'):=Hd fun e w' h=>by
  rw[kS];unfold Ck;rw[if_pos rfl];exact h
 rw[<-kS];have kX:wk<w.heap.size:=(Array.getElem?_eq_some_iff.1 kZ).1;have aO:sb<w.heap.size:=kG sb kH;refine Iz ha aJ hK ⟨kX,aO⟩ fun A c B d C e w1 g h=>?_;obtain⟨HX,HY,HB1,HS1,HG,HW1,HP,aB,aE,kP,kN,aY⟩:=h;have kK:=Hd (Ay HB1.o kX kZ);have kF:=Hd hK;have aZ:=Hd kJ;have bA:=Hd hT;have HE:=Hd hE;have kR:=hE.but (Ad.of_below (O:=fun _=>False) HB1.o) fun _ h=>h.elim;obtain⟨z,hz,aQ⟩:=kR.len;have f1:¬ z=0:=of_decide_eq_false aQ;have lk:=kR.look s (Nat.le_trans kP.o (by decide));obtain⟨n1,aM⟩:∃n1,n1=a+1:=⟨_,rfl⟩;obtain⟨w2,kC⟩:∃x,x=w1.setCell ⟨wk,0,none⟩ (.int .i64 ((a:Int)+1)):=⟨_,rfl⟩;have hO:Ad (fun x=>x=wk) w1 w2:=by rw[kC];exact (Ad.refl (fun x=>x=wk) w1).put1 0 _
 have kU:w2.heap[wk]?=some (.cells #[.int .i64 (n1:Int)] 85 (0,0)):=by rw[kC,aM];exact C0 kK.o 0 _
 obtain⟨g2,kI⟩:∃x,x=w2.heap.size:=⟨_,rfl⟩;have kY:w2.heap.size=w1.heap.size:=by rw[kC];simp
 obtain⟨w3,kD⟩:∃x,x=w2.alloc (.cells #[.int .i64 21,.string s,.int .i64 n,.slice A 4 c,.slice B 0 d,.slice C 0 e] 26):=⟨_,rfl⟩;have kT:Below w2.heap.size w2 w3:=by rw[kD];exact (Below.refl _ _).alloc (Nat.le_refl _) _
 have hH:Ad (fun x=>x=wk) w1 w3:=hO.then kT;have hG:Ad (fun x=>x=wk) w w3:=(Ad.of_below (O:=fun x=>x=wk) HB1.o).trans hH fun x h=>.inl h;have hF:Ad (fun x=>x=sb\/x=wk) w1 w3:=hH.mono fun x h=>.inr h;have aR:Z9 (w3.heap[wk]?=some (.cells #[.int .i64 (n1:Int)] 85 (0,0))):=Hd (Ay kT (Array.getElem?_eq_some_iff.1 kU).1 kU);have aT:Z9 (Cg K (fun x=>Z x\/x=g\/x=g2) w3 sb u nd):=Hd ((hS.more fun x h=>h.elim .inl fun e=>.inr (by have h1:=HG.o;have h2:=HS1.o;omega)).but hG (fun h=>kJ h.symm) (fun x h=>.inl (.inl (h ▸ hT))) fun x hx=>(hK x hx).2.2);have aW:Z9 (Ct wk sb n0 w3 m true):=Hd (hE.but hG fun x h=>.inl h);have hR:Z9 (w.heap.size<w3.heap.size/\g<w3.heap.size):=Hd (by have h1:=HS1.o;have h2:=HG.o;have h3:=hF.size;omega);have HZ:Z9 ((Z sb/\Z wk)/\∀x,Z x->x<w.heap.size):=Hd ⟨⟨kH,hT⟩,kG⟩;have aF:=Hd kC;have aA:Z9 (Ad (fun x=>x=sb\/x=wk) w1 w2):=Hd (hO.mono fun x h=>.inr h);have aG:=Hd kD;have hI:=Hd hF;have c0:=Ch kK.o 0;have c1:=Lib.frozen_of_heap kK.o 0;simp only[List.getElem?_toArray,List.getElem?_cons_zero]at c0;have t1:decide ((4096:Int)<(a:Int))=false:=decide_eq_false (by omega);have t1':¬ (4096:Int)<(a:Int):=by omega
 have t1'':¬ 4096<a:=by omega
 obtain⟨x0,x1,x2,x3,x4,x5⟩:=HX.o w1 (Ad.refl _ _);have kB:w3.heap.size=g2+1:=by rw[kD,kI];simp
 have aS:Z9 (w3.heap[g2]?=some (.cells #[.int .i64 21,.string s,.int .i64 n,.slice A 4 c,.slice B 0 d,.slice C 0 e] 26 (0,0))):=Hd (by rw[kD,kI];exact heap_alloc_new w2 _);have aC:=Hd kI;have hN:=Hd kB;have hB:Z9 (w1.heap.size<=g2/\g<g2):=Hd (by have h1:=HS1.o;omega);have hQ:Z9 (¬ (g2=sb\/g2=wk)):=Hd (by have h1:=kN.o;have h2:=hB.o;omega);have aX:Z9 (∀wx,Ad (fun x=>x=sb\/x=wk) w wx->Ct wk sb n0 wx m true):=Hd fun wx hx=>hE.but hx fun x h=>h.elim (fun e=>.inr (.inl e)) .inl;have aI:∀wx,Ad (fun x=>x=sb\/x=wk\/x=g2) w3 wx->Ad (fun x=>x=sb\/x=wk) w1 wx:=fun wx hx=>hF.trans hx fun x h=>by have h1:=hB.o;rcases h with h|h|h;exact .inl (.inl h);exact .inl (.inr h);exact .inr (by omega)
 have aL:m≠some g2:=fun e=>by
  subst e;have h1:=hE.2.2.1;have h2:=hB.o;have h3:=HG.o;omega
 have aH:=Zf (K:=K) (Z:=fun x=>Z x\/x=g\/x=g2) (wk:=wk) (sb:=sb) (nd:=nd) (w:=w3) (bp:=bp) (op:=op) (a:=n1) (g2:=g2) (m:=m) (n:=n) (s:=s) (p0:=p0) (p1:=p1) (p2:=p2) (p3:=p3) (A:=A) (B:=B) (C:=C) (c:=c) (d:=d) (e:=e) (n0:=n0) (u:=u)
  (fun wx hx=>by have h:=HX.o wx (aI wx hx);exact⟨h.2.1,h.2.2.1,h.2.2.2.1⟩) (HP.o w3 hF) (fun x hx=>⟨Nat.lt_trans (hK x hx).1 hR.o.1,(hK x hx).2.1,(hK x hx).2.2,by have h1:=(hK x hx).1;have h2:=hB.o;have h3:=HG.o;omega⟩) (fun wx hx=>by
   refine Ct.butM (O:=(fun x=>x=sb\/x=wk\/x=g2)) hE ((((Ad.of_below (O:=(fun x=>x=sb\/x=wk\/x=g2)) HB1.o).trans hF fun x h=>.inl (h.imp id .inl))).trans hx fun x h=>.inl h) fun x h=>?_;rcases h with h|h|h
   ·exact .inr (.inl h)
   ·exact .inl h
   ·exact .inr (.inr (.inl (by have h2:=hB.o;have h3:=HG.o;omega)))) aL aT.o (.inl kH) (.inl hT) (.inr (.inr rfl)) (fun x h=>by
   have h1:=hR.o;have h2:=hN.o;rcases h with h|h|h
   ·have:=kG x h;omega
   ·omega
   ·omega) aR.o kJ ⟨by have:=hQ.o;omega,by have:=hQ.o;omega⟩ aS.o (by omega) hW ihp aK hC hD hL (fun ha=>hM (hZ ha)) hY
 have KF:=Hd aH;have aD:=Hd aP;have HCN:Z9 (n1+Au [p0,p1,p2,p3]=a+Am (.mk 21 s n [p0,p1,p2,p3] [] [])):=Hd (by omega);clear ha aJ hK hE hS kH hT kG kZ kJ aV kX aO kS aQ kR kV aN aK hL hM ihp aU aM kC hO kU kD kT hH hG hF kY kB kI gv3 hW aI aH aL hC hD aP hY hZ;go_enter Tryz.func43,Tryz.ntmps43;go_upto_region 1 with fail
 rw[<-HW1.o,<-HG.o];by_cases hq:n0=s
 ·rw[show (true && decide (n0=s))=true by simp[hq],if_pos rfl]at lk;go_upto_region 11 with fail
  clear c0 c1 lk hz x0 x1 x2 x3 x4 x5;rw[<-aF.o];obtain⟨x0,x1,x2,x3,x4,x5⟩:=HX.o w2 aA.o;go_upto_region 12 with fail
  clear x0 x1 x2 x3 x4 x5;rw[<-aG.o,<-aC.o];obtain⟨x0,x1,x2,x3,x4,x5⟩:=HX.o w3 hI.o;go_upto_region 30 with fail
  go_wp2_with fail;refine KF.o.mono ?_;rintro r w5 ⟨rfl,A',c',kE,hX,hV,kA,hU⟩;have hA:Z9 (Ad (fun x=>x=sb\/x=wk) w1 w5):=Hd (hI.o.trans hU fun x h=>by have h1:=hB.o;rcases h with h|h|h;exact .inl (.inl h);exact .inl (.inr h);exact .inr (by omega));have kQ:=Hd kE;have kM:=Hd hX;have kL:=Hd hV;have kO:=Hd kA;have rb:=HY.o _ hA.o;clear kE hX hV kA hU KF x0 x1 x2 x3 x4 x5;obtain⟨x0,x1,x2,x3,x4,x5⟩:=Dw kQ.o;obtain⟨q0,q1,q2,q3,q4,q5,z0,z1,z2,z3,z4,z5⟩:=Hr rb;have RBX:=Hd rb;clear rb;go_wp2_with fail;obtain⟨r0,r1,r2,r3,r4,r5⟩:=Dw (Bt RBX.o (.int .i64 21) (.string s) (.int .i64 n) ((.slice A' 4 c')) (.slice B 0 d) (.slice C 0 e));clear q0 q1 q2 q3 q4 q5 z0 z1 z2 z3 z4 z5;refine bodyPost_ret (v:=.agg #[.int .i64 21,.string s,.int .i64 n,(.slice A' 4 c'),.slice B 0 d,.slice C 0 e]) (by simp[results,Tryz.results43,go_sem,r0,r1,r2,r3,r4,r5]) rfl ?_;clear r0 r1 r2 r3 r4 r5;have hJ:=Di w5 g (.int .i64 21) (.string s) (.int .i64 n) ((.slice A' 4 c')) (.slice B 0 d) (.slice C 0 e);have h1:=HCN.o;have h2:=kN.o;have h3:=HG.o;have h4:=hB.o;have h5:=hN.o;refine hP.o _ _ ⟨[.int .i64 21,.string s,.int .i64 n,(.slice A' 4 c'),.slice B 0 d,.slice C 0 e],rfl,?_,by rw[<-h1];exact hJ.up (by show ¬ wk=g;omega) kL.o,?_,D3 HB1.o hA.o HG.o hJ⟩
  ·rw[aD.o];obtain⟨b1,o1,r1,-⟩:=aB.o _ hA.o;obtain⟨b2,o2,r2,-⟩:=aE.o _ hA.o;have hk:∀x,K x\/w3.heap.size<=x->¬ x=g/\(K x\/w.heap.size<=x):=fun x hx=>by
    rcases hx with hx|hx
    ·have h6:=(kF.o x hx).1;exact⟨by omega,.inl hx⟩
    ·exact⟨by omega,.inr (by omega)⟩
   exact An.of (k:=21) (n:=n) (fs:=[]) (vs:=[]) (A':=B) (c':=d) (A'':=C) (c'':=e) kP.o (kM.o.but hJ hk) ⟨b1,o1,⟨r1.le,r1.big,r1.none,fun h=>absurd h (by simp)⟩,fun i h=>absurd h (by simp)⟩ ⟨b2,o2,⟨r2.le,r2.big,r2.none,fun h=>absurd h (by simp)⟩,fun i h=>absurd h (by simp)⟩
  ·exact (kO.o.but hJ (fun e=>by have e:sb=g:=e;omega) (fun x h=>.inl (.inr (.inl h))) fun x hx e=>by have h6:=(kF.o x hx).1;have e:x=g:=e;omega).more fun x h=>.inl (.inl h)
 ·rw[show (true && decide (n0=s))=false by simp[hq],if_neg (by decide)]at lk;go_upto_region 11 with fail
  clear c0 c1 lk hz x0 x1 x2 x3 x4 x5;rw[<-aF.o];obtain⟨x0,x1,x2,x3,x4,x5⟩:=HX.o w2 aA.o;go_upto_region 12 with fail
  clear x0 x1 x2 x3 x4 x5;rw[<-aG.o,<-aC.o];obtain⟨x0,x1,x2,x3,x4,x5⟩:=HX.o w3 hI.o;go_upto_region 30 with fail
  go_wp2_with fail;refine KF.o.mono ?_;rintro r w5 ⟨rfl,A',c',kE,hX,hV,kA,hU⟩;have hA:Z9 (Ad (fun x=>x=sb\/x=wk) w1 w5):=Hd (hI.o.trans hU fun x h=>by have h1:=hB.o;rcases h with h|h|h;exact .inl (.inl h);exact .inl (.inr h);exact .inr (by omega));have kQ:=Hd kE;have kM:=Hd hX;have kL:=Hd hV;have kO:=Hd kA;have rb:=HY.o _ hA.o;clear kE hX hV kA hU KF x0 x1 x2 x3 x4 x5;obtain⟨x0,x1,x2,x3,x4,x5⟩:=Dw kQ.o;obtain⟨q0,q1,q2,q3,q4,q5,z0,z1,z2,z3,z4,z5⟩:=Hr rb;have RBX:=Hd rb;clear rb;go_wp2_with fail;obtain⟨r0,r1,r2,r3,r4,r5⟩:=Dw (Bt RBX.o (.int .i64 21) (.string s) (.int .i64 n) ((.slice A' 4 c')) (.slice B 0 d) (.slice C 0 e));clear q0 q1 q2 q3 q4 q5 z0 z1 z2 z3 z4 z5;refine bodyPost_ret (v:=.agg #[.int .i64 21,.string s,.int .i64 n,(.slice A' 4 c'),.slice B 0 d,.slice C 0 e]) (by simp[results,Tryz.results43,go_sem,r0,r1,r2,r3,r4,r5]) rfl ?_;clear r0 r1 r2 r3 r4 r5;have hJ:=Di w5 g (.int .i64 21) (.string s) (.int .i64 n) ((.slice A' 4 c')) (.slice B 0 d) (.slice C 0 e);have h1:=HCN.o;have h2:=kN.o;have h3:=HG.o;have h4:=hB.o;have h5:=hN.o;refine hP.o _ _ ⟨[.int .i64 21,.string s,.int .i64 n,(.slice A' 4 c'),.slice B 0 d,.slice C 0 e],rfl,?_,by rw[<-h1];exact hJ.up (by show ¬ wk=g;omega) kL.o,?_,D3 HB1.o hA.o HG.o hJ⟩
  ·rw[aD.o];obtain⟨b1,o1,r1,-⟩:=aB.o _ hA.o;obtain⟨b2,o2,r2,-⟩:=aE.o _ hA.o;have hk:∀x,K x\/w3.heap.size<=x->¬ x=g/\(K x\/w.heap.size<=x):=fun x hx=>by
    rcases hx with hx|hx
    ·have h6:=(kF.o x hx).1;exact⟨by omega,.inl hx⟩
    ·exact⟨by omega,.inr (by omega)⟩
   exact An.of (k:=21) (n:=n) (fs:=[]) (vs:=[]) (A':=B) (c':=d) (A'':=C) (c'':=e) kP.o (kM.o.but hJ hk) ⟨b1,o1,⟨r1.le,r1.big,r1.none,fun h=>absurd h (by simp)⟩,fun i h=>absurd h (by simp)⟩ ⟨b2,o2,⟨r2.le,r2.big,r2.none,fun h=>absurd h (by simp)⟩,fun i h=>absurd h (by simp)⟩
  ·exact (kO.o.but hJ (fun e=>by have e:sb=g:=e;omega) (fun x h=>.inl (.inr (.inl h))) fun x hx e=>by have h6:=(kF.o x hx).1;have e:x=g:=e;omega).more fun x h=>.inl (.inl h)
theorem Jeg {ps:List Ty}(h:ps.length=2):∃p0 p1,ps=[p0,p1]:=by
 match ps,h with
 | [a,b],_=>exact⟨a,b,rfl⟩
theorem Jbj {ps:List Ty}(h:ps.length=4):∃p0 p1 p2 p3,ps=[p0,p1,p2,p3]:=by
 match ps,h with
 | [a,b,c,d],_=>exact⟨a,b,c,d,rfl⟩
theorem Yd {x s:Z8}{n:Int}{p0 p1:Ty}:Bx x (.mk 20 s n [p0,p1] [] [])=(Bx x p0 || (!decide (s=x) && Bx x p1)):=by
 rw[Fd];simp[Fl,Mh,Ox,Ff,Dz]
theorem Jga {Cc:Prop}{n0:Z8}{u:Ty}(hT:Ai u=true/\Dy u=true/\Am u<=5000) (t:Ty):E8 n0 u t=true->M1 Cc n0 u t:=by
 refine Ty.ind (C:=fun t=>E8 n0 u t=true->M1 Cc n0 u t) (fun k s n ps fs vs hp hf hv hR=>?_) t;obtain⟨c1,c2,c3,c4⟩:=Zx hR;obtain⟨d1,d2,d3,d4⟩:=Zy c1;have ihp:∀p∈ps,M1 Cc n0 u p:=fun p h=>hp p h (c3 p h);have ihf:∀f∈fs,M1 Cc n0 u f.2.2:=fun f h=>hf f h (c4 f h);have ihv:∀v∈vs,∀b∈v.2,M1 Cc n0 u b:=fun v h b hb=>hv v h b hb (c2 v h b hb);intro K Z wk sb nd w bp op m act a ha hD hK hE hS hJ hC hI hG hH hF hB hA
 cases act with
 | false=>exact Jeo ha hD hK hE hS hC hG hH hF
 | true=>
  have hA:=hA rfl;obtain⟨l1,l2,l3,l4⟩:=Ew hB.1;by_cases hQ:k=16/\s=n0
  ·obtain⟨rfl,rfl⟩:=hQ;refine Jgb ha hD hK hE hS hC hG hH hF hB.1 (hA.elim And.left fun h=>?_);rw[Fd]at h;simp at h
  by_cases hP:k=15
  ·subst hP;obtain⟨-,rfl,rfl,rfl,rfl,-⟩:=Qq hB.1;exact Jbu ha hD hK hE hS hJ hC hI hG hH hF hB hA ihp
  by_cases hO:k=14
  ·subst hO;obtain rfl:ps=[]:=List.eq_nil_of_length_eq_zero (l3 rfl);obtain rfl:vs=[]:=List.eq_nil_of_length_eq_zero (l2 (by decide));refine Yr ha hD hK hE hS hJ hC hI hG hH hF hB hA (fun f hV _=>hA.imp id fun h=>?_) ?_ ihf
   ·rw[Fd]at h;rw[Bool.eq_false_iff];intro e;rw[show Ox n0 fs=true from List.any_eq_true.2 ⟨f,hV,e⟩]at h;simp[Ff]at h
   ·rw[Fb,if_neg (by simp),if_neg (by decide)];rfl
  by_cases hN:k=13
  ·subst hN;obtain rfl:fs=[]:=List.eq_nil_of_length_eq_zero (l1 (by decide));refine Jen ha hD hK hE hS hJ hC hI hG hH hF hB hA hT (fun h1 h2 x hx=>?_) ihp ihv;rw[Jj]at h2;obtain⟨v,hX,rfl⟩:=List.mem_map.1 hx;exact d1 h2 h1 v hX
  by_cases hL:k=20
  ·subst hL;obtain rfl:fs=[]:=List.eq_nil_of_length_eq_zero (l1 (by decide));obtain rfl:vs=[]:=List.eq_nil_of_length_eq_zero (l2 (by decide));have hl:ps.length=2:=by
    have h4:=Dx hB.1;rw[show Ak 20=⟨true,true,false,false,2,2,true⟩ from rfl]at h4;unfold Ar at h4;simp only[Bool.and_eq_true,Bool.or_eq_true,decide_eq_true_eq,beq_iff_eq]at h4;omega
   obtain⟨p0,p1,rfl⟩:=Jeg hl;have hU:Bx n0 (.mk 20 s n [p0,p1] [] [])=(Bx n0 p0 || (!decide (s=n0) && Bx n0 p1)):=Yd;refine Yq ha hD hK hE hS hJ hC hI hG hH hF hB hA hT (fun h1 h2 x hx=>?_) (fun _=>hA.imp id fun h=>?_) (fun h0=>hA.imp id fun h=>?_) ⟨ihp p0 (by simp),ihp p1 (by simp)⟩
   ·obtain rfl:x=s:=by simpa using hx
    exact d2 rfl (fun e=>by rw[e]at h2;simp[Dp]at h2) h1
   ·rw[hU,Bool.or_eq_false_iff]at h;exact h.1
   ·rw[hU,Bool.or_eq_false_iff]at h;rw[Bool.and_eq_true]at h0;have h5:decide (s=n0)=false:=(by have:=h0.2;simpa [Dp] using this);rw[h5]at h;simpa using h.2
  by_cases hM:k=21
  ·subst hM;obtain rfl:fs=[]:=List.eq_nil_of_length_eq_zero (l1 (by decide));obtain rfl:vs=[]:=List.eq_nil_of_length_eq_zero (l2 (by decide));have hl:ps.length=4:=by
    have h4:=Dx hB.1;rw[show Ak 21=⟨true,true,false,false,4,4,true⟩ from rfl]at h4;unfold Ar at h4;simp only[Bool.and_eq_true,Bool.or_eq_true,decide_eq_true_eq,beq_iff_eq]at h4;omega
   obtain⟨p0,p1,p2,p3,rfl⟩:=Jbj hl;refine Jem ha hD hK hE hS hJ hC hI hG hH hF hB hA hT (fun hn h1 h2 x hx=>?_) (fun _ h1 h2 x hx=>d4 rfl h2 h1 x hx) ihp;obtain rfl:x=s:=by simpa using hx
   exact d3 rfl hn (fun e=>by rw[e]at h2;simp[Dp]at h2) h1
  obtain rfl:fs=[]:=List.eq_nil_of_length_eq_zero (l1 hO);obtain rfl:vs=[]:=List.eq_nil_of_length_eq_zero (l2 hN);refine Jbt ha hD hK hE hS hJ hC hI hG hH hF hB hA ⟨hN,hO,hP,hL,hM⟩ (fun e h=>hQ ⟨h,e.symm⟩) (fun p hW _=>hA.imp id fun h=>Ja5 hL hM h p hW) (Y6 hP hL hM fun e h=>hQ ⟨h,e.symm⟩) ihp
