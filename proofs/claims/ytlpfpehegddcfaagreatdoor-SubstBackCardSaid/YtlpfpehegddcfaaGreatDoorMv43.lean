import Derived.Test.YtlpfpehegddcfaaGreatDoorMv41
import Derived.Test.YtlpfpehegddcfaaGreatDoorMv42
namespace Go.Proofs.YtlpfpehegddcfaaGreatDoor
set_option maxRecDepth 100000
set_option maxHeartbeats 64000000
open Go.RowKit
theorem Ph {n0:ByteArray} {u:Ty} {K Z:Nat->Prop} {wk sb nd:Nat} {w:World} {bp op a g2:Nat} {m:Option Nat} {n:Int} {s:ByteArray} {ps:List Ty} {vs:Bm} {A B C:Option Addr} {c d e:Nat}
  (hat:∀ wx,ButG (fun x=>x=sb\/x=wk\/x=g2) w wx->wx.cell? ⟨bp,op+3,none⟩=some (.slice A ps.length c)/\wx.cell? ⟨bp,op+5,none⟩=some (.slice C vs.length e)) (hP:ListT K w ps A c) (hV:ListV K w vs C e) (hK:∀ x,K x->x<w.heap.size/\x≠sb/\x≠wk/\x≠g2) (hE:∀ wx,ButG (fun x=>x=sb\/x=wk\/x=g2) w wx->EnvP wk sb n0 wx m true) (hS:StaS K Z w sb u nd) (hZs:Z sb) (hZw:Z wk) (hZg:Z g2) (hZl:∀ x,Z x->x<w.heap.size) (hwk:w.heap[wk]?=some (.cells #[.int .i64 (a:Int)] 85 (0,0))) (hws:wk≠sb) (hg2:g2≠sb/\g2≠wk) (hx2:w.heap[g2]?=some (.cells #[.int .i64 13,.string s,.int .i64 n,.slice A ps.length c,.slice B 0 d,.slice C vs.length e] 26 (0,0))) (hct:a+(An ps+Be vs)<=4096) (hfp:∀ p∈ps,Ab p=true/\Da p=true) (ihp:∀ p∈ps,Lw n0 u p) (hvl:vs.length<=3518437208780) (hfv:∀ v∈vs,∀ b∈v.2,Ab b=true/\Da b=true) (ihv:∀ v∈vs,∀ b∈v.2,Lw n0 u b) (hfu:Ab u=true/\Da u=true/\Ai u<=5000) (hcap:Bl n0 (D3 ps vs)=true->Cl (vs.map (·.1)) n0=false->∀ x∈vs.map (·.1),Bl x u=false) (hnd:(nd=1/\Ai u=1)\/Bl n0 (.mk 13 s n ps [] vs)=false) :
  Calls Tryz.prog 82 #[.pointer (some ⟨wk,0,none⟩),.pointer (some ⟨bp,op,none⟩),.pointer (some ⟨g2,0,none⟩),.map m] w (fun r w'=>r=.returned (.tuple #[])/\∃ A' c' C' e',w'.heap[g2]?=some (.cells #[.int .i64 13,.string s,.int .i64 n,(.slice A' ps.length c'),.slice B 0 d,(.slice C' vs.length e')] 26 (0,0))/\ListT (fun x=>K x\/w.heap.size<=x) w' (ps.map (fun p=>if (Ew true (vs.map (·.1)) n0 (D3 ps vs))=true then Ak n0 u p else p)) A' c'/\ListV (fun x=>K x\/w.heap.size<=x) w' (vs.map (fun v:ByteArray×List Ty=>(v.1,v.2.map (fun p=>if (Ew true (vs.map (·.1)) n0 (D3 ps vs))=true then Ak n0 u p else p)))) C' e'/\w'.heap[wk]?=some (.cells #[.int .i64 ((a+(An ps+Be vs):Nat):Int)] 85 (0,0))/\StaS K Z w' sb u nd/\ButG (fun x=>x=sb\/x=wk\/x=g2) w w'):=by
 have hfr:Bl n0 (.mk 13 s n ps [] vs)=(!Dq vs n0 && (Hr n0 ps || J1 n0 vs)):=by
  rw[Ef];have e1:((13:Int) == 16 && decide (s=n0))=false:=by simp
  have e2:Mj n0 []=false:=rfl;rw[e1,e2,Id (fun i=>Hv (by decide) (by decide) i),Bool.false_or,Bool.or_false,Bool.or_comm]
 by_cases hv0:vs=[]
 ·subst hv0;have e:(Ew true (([]:Bm).map (·.1)) n0 (D3 ps ([]:Bm)))=true:=by unfold Ew;simp
  rw[e];refine Sv hat hP hV hK hE hS hZs hZw hZg hZl hwk hws hg2 hx2 hct hfp ihp rfl fun p hp _=>hnd.imp id fun h=>?_;rw[hfr] at h;simp only[Dq,List.any_nil,Bool.not_false,Bool.true_and,Bool.or_eq_false_iff] at h;rw[Bool.eq_false_iff];intro e;rw[show Hr n0 ps=true from List.any_eq_true.2 ⟨p,hp,e⟩] at h
  cases h.1
 ·have h0:0<vs.length:=List.length_pos_iff.2 hv0;have e:(Ew true (vs.map (·.1)) n0 (D3 ps vs))=(Bl n0 (D3 ps vs) && !Cl (vs.map (·.1)) n0):=by
   unfold Ew;have:(vs.map (·.1)).isEmpty=false:=by
    cases vs with
    | nil=>exact absurd rfl hv0
    | cons a l=>rfl
   rw[this];rfl
  rw[e];refine Sw hat hP hV hK hE hS hZs hZw hZg hZl hwk hws hg2 hx2 hct hfp ihp h0 hvl hfv ihv hfu hcap fun h=>hnd.elim id fun h2=>?_;rw[hfr,Ig] at *;rw[Un] at h;rw[Bool.and_eq_true] at h;rw[h.1,h.2] at h2
  cases h2
theorem Jbj {n0:ByteArray} {u:Ty} {n:Int} {s:ByteArray} {ps:List Ty} {vs:Bm} (hp:∀ p∈ps,Ab p=true) (hv:∀ v∈vs,∀ b∈v.2,Ab b=true):Ak n0 u (.mk 13 s n ps [] vs)=.mk 13 s n (ps.map (fun p=>if (Ew true (vs.map (·.1)) n0 (D3 ps vs))=true then Ak n0 u p else p)) [] (vs.map (fun v:ByteArray×List Ty=>(v.1,v.2.map (fun p=>if (Ew true (vs.map (·.1)) n0 (D3 ps vs))=true then Ak n0 u p else p)))):=by
 rw[Cr,if_neg (by simp),if_neg (by decide)];have hen:(Ew true (vs.map (·.1)) n0 (D3 ps vs))=(vs.isEmpty || (Bl n0 (D3 ps vs) && !Dq vs n0)):=by
  unfold Ew;rw[Ig,Bool.true_and]
  cases vs <;> rfl
 rw[hen];by_cases hi:Dq vs n0=true
 ·have h1:vs.isEmpty=false:=by
   cases vs with
   | nil=>cases hi
   | cons a l=>rfl
  rw[h1,hi,Il (cut:=fun i=>true || C5 13 s n ps i n0) fun i=>rfl];have e3:(vs.map fun v=>(v.1,v.2.map fun b=>if true=true then b else Ak n0 u b))=vs:=by
   refine (List.map_congr_left (g:=id) fun v _=>?_).trans (List.map_id _);simp
  rw[e3];simp
 ·rw[Bool.not_eq_true] at hi;rw[hi,Ik fun i=>by rw[Hv (by decide) (by decide)];rfl]
  cases hc:(vs.isEmpty || (Bl n0 (D3 ps vs) && !false)) with
  | true=>simp
  | false=>
   rw[Bool.or_eq_false_iff,Bool.not_false,Bool.and_true,Un,Bool.or_eq_false_iff] at hc;have h1:∀ p∈ps,Ak n0 u p=p:=fun p h=>Do n0 u p (hp p h) (Bool.eq_false_iff.2 fun e=>by
    have:=hc.2.1;rw[show Hr n0 ps=true from List.any_eq_true.2 ⟨p,h,e⟩] at this
    cases this)
   have h2:∀ v∈vs,∀ b∈v.2,Ak n0 u b=b:=fun v h b hb=>Do n0 u b (hv v h b hb) (Bool.eq_false_iff.2 fun e=>by
    have:=hc.2.2;rw[show J1 n0 vs=true from List.any_eq_true.2 ⟨v,h,List.any_eq_true.2 ⟨b,hb,e⟩⟩] at this
    cases this)
   have e1:ps.map (Ak n0 u)=ps.map fun p=>if false=true then Ak n0 u p else p:=List.map_congr_left fun p h=>by rw[h1 p h];simp
   have e2:(vs.map fun v=>(v.1,v.2.map fun b=>if false=true then b else Ak n0 u b))=vs.map fun v=>(v.1,v.2.map fun p=>if false=true then Ak n0 u p else p):=List.map_congr_left fun v h=>by
    refine congrArg (Prod.mk v.1) (List.map_congr_left fun b hb=>?_);simp[h2 v h b hb]
   rw[e1,e2];rfl
theorem Jc7 {n0:ByteArray} {u:Ty} {K Z:Nat->Prop} {wk sb nd:Nat} {w:World} {bp op a:Nat} {m:Option Nat} {n:Int} {s:ByteArray} {ps:List Ty} {vs:Bm} (ha:AtT K w (.mk 13 s n ps [] vs) bp op) (hbp:bp≠sb/\bp≠wk) (hK:∀ x,K x->x<w.heap.size/\x≠sb/\x≠wk) (hE:EnvP wk sb n0 w m true) (hS:StaS K Z w sb u nd) (hZs:Z sb) (hZw:Z wk) (hZl:∀ x,Z x->x<w.heap.size) (hwk:w.heap[wk]?=some (.cells #[.int .i64 (a:Int)] 85 (0,0))) (hws:wk≠sb) (hct:a+Ai (.mk 13 s n ps [] vs)<=4096) (hfm:Ab (.mk 13 s n ps [] vs)=true/\Da (.mk 13 s n ps [] vs)=true) (hnd:(nd=1/\Ai u=1)\/Bl n0 (.mk 13 s n ps [] vs)=false) (hfu:Ab u=true/\Da u=true/\Ai u<=5000) (hcap:Bl n0 (D3 ps vs)=true->Cl (vs.map (·.1)) n0=false->∀ x∈vs.map (·.1),Bl x u=false) (ihp:∀ p∈ps,Lw n0 u p) (ihv:∀ v∈vs,∀ b∈v.2,Lw n0 u b) :
  Calls Tryz.prog 43 #[.pointer (some ⟨wk,0,none⟩),.pointer (some ⟨bp,op,none⟩),.map m] w (Bx n0 u K Z wk sb nd w true a (.mk 13 s n ps [] vs)):=by
 have hcn:Ai (.mk 13 s n ps [] vs)=1+(An ps+Be vs):=by rw[Br];show 1+(An ps+(Bd []+Be vs))=_;unfold Bd;simp
 obtain⟨gv1,gv2,gv3,-⟩:=E6 hfm.2;have hfp:∀ p∈ps,Ab p=true/\Da p=true:=fun p hp=>⟨Ci hfm.1 p hp,gv3 p hp⟩;have hfv:∀ v∈vs,∀ b∈v.2,Ab b=true/\Da b=true:=fun v hv b hb=>⟨Gg hfm.1 v hv b hb,gv2 v hv b hb⟩;obtain⟨PO,hPO⟩:∃ PO:Ending->World->Prop,PO=Bx n0 u K Z wk sb nd w true a (.mk 13 s n ps [] vs):=⟨_,rfl⟩;have HFIN:Hid (∀ e w',(∃ rs:List Value,e=.returned (.agg rs.toArray)/\RepT (fun x=>K x\/w.heap.size<=x) w' (Ak n0 u (.mk 13 s n ps [] vs)) rs/\w'.heap[wk]?=some (.cells #[.int .i64 ((a+Ai (.mk 13 s n ps [] vs):Nat):Int)] 85 (0,0))/\StaS K Z w' sb u nd/\ButG (fun x=>x=sb\/x=wk) w w')->PO e w'):=Hd fun e w' h=>by
  rw[hPO];unfold Bx;rw[if_pos rfl];exact h
 rw[<-hPO];have hmw:wk<w.heap.size:=(Array.getElem?_eq_some_iff.1 hwk).1;have hsb:sb<w.heap.size:=hZl sb hZs;refine Hy ha hbp hK ⟨hmw,hsb⟩ fun A c B d C e w1 g h=>?_;obtain⟨HX,HY,HB1,HS1,HG,HW1,HP,HFS,HVS,HTS,HMG,HRP⟩:=h;have HC1:=Hd (Bc HB1.out hmw hwk);have HKK:=Hd hK;have HWS:=Hd hws;have HZW:=Hd hZw;have HE:=Hd hE;have hE1:=hE.but (ButG.of_below (O:=fun _=>False) HB1.out) fun _ h=>h.elim;obtain⟨z,hz,hz2⟩:=hE1.len;have f1:¬ z=0:=of_decide_eq_false hz2;have lk:=hE1.look s (Nat.le_trans HTS.out (by decide));obtain⟨n1,hn1⟩:∃ n1,n1=a+1:=⟨_,rfl⟩;obtain⟨w2,hw2⟩:∃ x,x=w1.setCell ⟨wk,0,none⟩ (.int .i64 ((a:Int)+1)):=⟨_,rfl⟩;have hb2':ButG (fun x=>x=wk) w1 w2:=by rw[hw2];exact (ButG.refl (fun x=>x=wk) w1).put1 0 _
 have hc2:w2.heap[wk]?=some (.cells #[.int .i64 (n1:Int)] 85 (0,0)):=by rw[hw2,hn1];exact Co HC1.out 0 _
 obtain⟨g2,hg2⟩:∃ x,x=w2.heap.size:=⟨_,rfl⟩;have hsz2:w2.heap.size=w1.heap.size:=by rw[hw2];simp
 obtain⟨w3,hw3⟩:∃ x,x=w2.alloc (.cells #[.int .i64 13,.string s,.int .i64 n,.slice A ps.length c,.slice B 0 d,.slice C vs.length e] 26):=⟨_,rfl⟩;have hb3:Below w2.heap.size w2 w3:=by rw[hw3];exact (Below.refl _ _).alloc (Nat.le_refl _) _
 have hb13':ButG (fun x=>x=wk) w1 w3:=hb2'.then hb3;have hb03':ButG (fun x=>x=wk) w w3:=(ButG.of_below (O:=fun x=>x=wk) HB1.out).trans hb13' fun x h=>.inl h;have hb13:ButG (fun x=>x=sb\/x=wk) w1 w3:=hb13'.mono fun x h=>.inr h;have HC3:Hid (w3.heap[wk]?=some (.cells #[.int .i64 (n1:Int)] 85 (0,0))):=Hd (Bc hb3 (Array.getElem?_eq_some_iff.1 hc2).1 hc2);have HS3:Hid (StaS K (fun x=>Z x\/x=g\/x=g2) w3 sb u nd):=Hd ((hS.more fun x h=>h.elim .inl fun e=>.inr (by have h1:=HG.out;have h2:=HS1.out;omega)).but hb03' (fun h=>hws h.symm) (fun x h=>.inl (.inl (h ▸ hZw))) fun x hx=>(hK x hx).2.2);have HE3:Hid (EnvP wk sb n0 w3 m true):=Hd (hE.but hb03' fun x h=>.inl h);have HSZ3:Hid (w.heap.size<w3.heap.size/\g<w3.heap.size):=Hd (by have h1:=HS1.out;have h2:=HG.out;have h3:=hb13.size;omega);have HZ:Hid ((Z sb/\Z wk)/\∀ x,Z x->x<w.heap.size):=Hd ⟨⟨hZs,hZw⟩,hZl⟩;have HW2:=Hd hw2;have HB2:Hid (ButG (fun x=>x=sb\/x=wk) w1 w2):=Hd (hb2'.mono fun x h=>.inr h);have HW3:=Hd hw3;have HB13:=Hd hb13;have c0:=Ch HC1.out 0;have c1:=Lib.frozen_of_heap HC1.out 0;simp only[List.getElem?_toArray,List.getElem?_cons_zero] at c0;have t1:decide ((4096:Int)<(a:Int))=false:=decide_eq_false (by omega);have t1':¬ (4096:Int)<(a:Int):=by omega
 have t1'':¬ 4096<a:=by omega
 obtain⟨x0,x1,x2,x3,x4,x5⟩:=HX.out w1 (ButG.refl _ _);have hsz3:w3.heap.size=g2+1:=by rw[hw3,hg2];simp
 have HO3:Hid (w3.heap[g2]?=some (.cells #[.int .i64 13,.string s,.int .i64 n,.slice A ps.length c,.slice B 0 d,.slice C vs.length e] 26 (0,0))):=Hd (by rw[hw3,hg2];exact heap_alloc_new w2 _);have HG2:=Hd hg2;have HS33:=Hd hsz3;have HG2G:Hid (w1.heap.size<=g2/\g<g2):=Hd (by have h1:=HS1.out;omega);have HG2N:Hid (¬ (g2=sb\/g2=wk)):=Hd (by have h1:=HMG.out;have h2:=HG2G.out;omega);have HEA:Hid (∀ wx,ButG (fun x=>x=sb\/x=wk) w wx->EnvP wk sb n0 wx m true):=Hd fun wx hx=>hE.but hx fun x h=>h.elim (fun e=>.inr (.inl e)) .inl;have h3G:∀ wx,ButG (fun x=>x=sb\/x=wk\/x=g2) w3 wx->ButG (fun x=>x=sb\/x=wk) w1 wx:=fun wx hx=>hb13.trans hx fun x h=>by have h1:=HG2G.out;rcases h with h | h | h;exact .inl (.inl h);exact .inl (.inr h);exact .inr (by omega)
 have KF0:=Ph (K:=K) (Z:=fun x=>Z x\/x=g\/x=g2) (wk:=wk) (sb:=sb) (nd:=nd) (w:=w3) (bp:=bp) (op:=op) (a:=n1) (g2:=g2) (m:=m) (n:=n) (s:=s) (ps:=ps) (vs:=vs) (A:=A) (B:=B) (C:=C) (c:=c) (d:=d) (e:=e) (n0:=n0) (u:=u)
  (fun wx hx=>by have h:=HX.out wx (h3G wx hx);exact⟨h.2.2.2.1,h.2.2.2.2.2⟩) (HP.out w3 hb13) (HVS.out w3 hb13) (fun x hx=>⟨Nat.lt_trans (hK x hx).1 HSZ3.out.1,(hK x hx).2.1,(hK x hx).2.2,by have h1:=(hK x hx).1;have h2:=HG2G.out;have h3:=HG.out;omega⟩) (fun wx hx=>by
   refine EnvP.butM (O:=(fun x=>x=sb\/x=wk\/x=g2)) hE ((((ButG.of_below (O:=(fun x=>x=sb\/x=wk\/x=g2)) HB1.out).trans hb13 fun x h=>.inl (h.imp id .inl))).trans hx fun x h=>.inl h) fun x h=>?_;rcases h with h | h | h
   ·exact .inr (.inl h)
   ·exact .inl h
   ·exact .inr (.inr (.inl (by have h2:=HG2G.out;have h3:=HG.out;omega)))) HS3.out (.inl hZs) (.inl hZw) (.inr (.inr rfl)) (fun x h=>by
   have h1:=HSZ3.out;have h2:=HS33.out;rcases h with h | h | h
   ·have:=hZl x h;omega
   ·omega
   ·omega) HC3.out hws ⟨by have:=HG2N.out;omega,by have:=HG2N.out;omega⟩ HO3.out (by omega) hfp ihp gv1 hfv ihv hfu hcap hnd
 have KF:=Hd KF0;have HSU:Hid (Ak n0 u (.mk 13 s n ps [] vs)=_):=Hd (Jbj (n0:=n0) (u:=u) (n:=n) (s:=s) (fun p hp=>(hfp p hp).1) fun v hv b hb=>(hfv v hv b hb).1);have HCN:Hid (n1+(An ps+Be vs)=a+Ai (.mk 13 s n ps [] vs)):=Hd (by omega);clear ha hbp hK hE hS hZs hZw hZl hwk hws hct hmw hsb hPO hz2 hE1 hfm hnd hfu hcap ihp ihv hcn hn1 hw2 hb2' hc2 hw3 hb3 hb13' hb03' hb13 hsz2 hsz3 hg2 gv1 gv2 gv3 hfp hfv h3G KF0;go_enter Tryz.func43,Tryz.ntmps43;go_upto_region 1 with fail
 rw[<-HW1.out,<-HG.out];by_cases hq:n0=s
 ·rw[show (true && decide (n0=s))=true by simp[hq],if_pos rfl] at lk;go_upto_region 11 with fail
  clear c0 c1 lk hz x0 x1 x2 x3 x4 x5;rw[<-HW2.out];obtain⟨x0,x1,x2,x3,x4,x5⟩:=HX.out w2 HB2.out;go_upto_region 12 with fail
  clear x0 x1 x2 x3 x4 x5;rw[<-HW3.out,<-HG2.out];obtain⟨x0,x1,x2,x3,x4,x5⟩:=HX.out w3 HB13.out;go_upto_region 24 with fail
  go_wp2_with fail;refine KF.out.mono ?_;rintro r w5 ⟨rfl,A',c',C',e',hx5,hl5,hv5,hc5,hs5,hb5⟩;have HB15:Hid (ButG (fun x=>x=sb\/x=wk) w1 w5):=Hd (HB13.out.trans hb5 fun x h=>by have h1:=HG2G.out;rcases h with h | h | h;exact .inl (.inl h);exact .inl (.inr h);exact .inr (by omega));have HX5:=Hd hx5;have HL5:=Hd hl5;have HV5:=Hd hv5;have HC5:=Hd hc5;have HS5:=Hd hs5;have rb:=HY.out _ HB15.out;clear hx5 hl5 hv5 hc5 hs5 hb5 KF x0 x1 x2 x3 x4 x5;obtain⟨x0,x1,x2,x3,x4,x5⟩:=Fs HX5.out;obtain⟨q0,q1,q2,q3,q4,q5,z0,z1,z2,z3,z4,z5⟩:=Jp rb;have RBX:=Hd rb;clear rb;go_wp2_with fail;obtain⟨r0,r1,r2,r3,r4,r5⟩:=Fs (B5 RBX.out (.int .i64 13) (.string s) (.int .i64 n) ((.slice A' ps.length c')) (.slice B 0 d) ((.slice C' vs.length e')));clear q0 q1 q2 q3 q4 q5 z0 z1 z2 z3 z4 z5;refine bodyPost_ret (v:=.agg #[.int .i64 13,.string s,.int .i64 n,(.slice A' ps.length c'),.slice B 0 d,(.slice C' vs.length e')]) (by simp[results,Tryz.results43,go_sem,r0,r1,r2,r3,r4,r5]) rfl ?_;clear r0 r1 r2 r3 r4 r5;have HSB:=Cu w5 g (.int .i64 13) (.string s) (.int .i64 n) ((.slice A' ps.length c')) (.slice B 0 d) ((.slice C' vs.length e'));have h1:=HCN.out;have h2:=HMG.out;have h3:=HG.out;have h4:=HG2G.out;have h5:=HS33.out;refine HFIN.out _ _ ⟨[.int .i64 13,.string s,.int .i64 n,(.slice A' ps.length c'),.slice B 0 d,(.slice C' vs.length e')],rfl,?_,by rw[<-h1];exact HSB.up (by show ¬ wk=g;omega) HC5.out,?_,Dl HB1.out HB15.out HG.out HSB⟩
  ·rw[HSU.out];obtain⟨b1,o1,r1,-⟩:=HFS.out _ HB15.out;have hk:∀ x,K x\/w3.heap.size<=x->¬ x=g/\(K x\/w.heap.size<=x):=fun x hx=>by
    rcases hx with hx | hx
    ·have h6:=(HKK.out x hx).1;exact⟨by omega,.inl hx⟩
    ·exact⟨by omega,.inr (by omega)⟩
   have hr:=RepT.of (k:=13) (n:=n) (fs:=[]) (A':=B) (c':=d) HTS.out (HL5.out.but HSB hk) ⟨b1,o1,⟨r1.le,r1.big,r1.none,fun h=>absurd h (by simp)⟩,fun i h=>absurd h (by simp)⟩ (HV5.out.but HSB hk);rw[List.length_map,List.length_map] at hr;exact hr
  ·exact (HS5.out.but HSB (fun e=>by have e:sb=g:=e;omega) (fun x h=>.inl (.inr (.inl h))) fun x hx e=>by have h6:=(HKK.out x hx).1;have e:x=g:=e;omega).more fun x h=>.inl (.inl h)
 ·rw[show (true && decide (n0=s))=false by simp[hq],if_neg (by decide)] at lk;go_upto_region 11 with fail
  clear c0 c1 lk hz x0 x1 x2 x3 x4 x5;rw[<-HW2.out];obtain⟨x0,x1,x2,x3,x4,x5⟩:=HX.out w2 HB2.out;go_upto_region 12 with fail
  clear x0 x1 x2 x3 x4 x5;rw[<-HW3.out,<-HG2.out];obtain⟨x0,x1,x2,x3,x4,x5⟩:=HX.out w3 HB13.out;go_upto_region 24 with fail
  go_wp2_with fail;refine KF.out.mono ?_;rintro r w5 ⟨rfl,A',c',C',e',hx5,hl5,hv5,hc5,hs5,hb5⟩;have HB15:Hid (ButG (fun x=>x=sb\/x=wk) w1 w5):=Hd (HB13.out.trans hb5 fun x h=>by have h1:=HG2G.out;rcases h with h | h | h;exact .inl (.inl h);exact .inl (.inr h);exact .inr (by omega));have HX5:=Hd hx5;have HL5:=Hd hl5;have HV5:=Hd hv5;have HC5:=Hd hc5;have HS5:=Hd hs5;have rb:=HY.out _ HB15.out;clear hx5 hl5 hv5 hc5 hs5 hb5 KF x0 x1 x2 x3 x4 x5;obtain⟨x0,x1,x2,x3,x4,x5⟩:=Fs HX5.out;obtain⟨q0,q1,q2,q3,q4,q5,z0,z1,z2,z3,z4,z5⟩:=Jp rb;have RBX:=Hd rb;clear rb;go_wp2_with fail;obtain⟨r0,r1,r2,r3,r4,r5⟩:=Fs (B5 RBX.out (.int .i64 13) (.string s) (.int .i64 n) ((.slice A' ps.length c')) (.slice B 0 d) ((.slice C' vs.length e')));clear q0 q1 q2 q3 q4 q5 z0 z1 z2 z3 z4 z5;refine bodyPost_ret (v:=.agg #[.int .i64 13,.string s,.int .i64 n,(.slice A' ps.length c'),.slice B 0 d,(.slice C' vs.length e')]) (by simp[results,Tryz.results43,go_sem,r0,r1,r2,r3,r4,r5]) rfl ?_;clear r0 r1 r2 r3 r4 r5;have HSB:=Cu w5 g (.int .i64 13) (.string s) (.int .i64 n) ((.slice A' ps.length c')) (.slice B 0 d) ((.slice C' vs.length e'));have h1:=HCN.out;have h2:=HMG.out;have h3:=HG.out;have h4:=HG2G.out;have h5:=HS33.out;refine HFIN.out _ _ ⟨[.int .i64 13,.string s,.int .i64 n,(.slice A' ps.length c'),.slice B 0 d,(.slice C' vs.length e')],rfl,?_,by rw[<-h1];exact HSB.up (by show ¬ wk=g;omega) HC5.out,?_,Dl HB1.out HB15.out HG.out HSB⟩
  ·rw[HSU.out];obtain⟨b1,o1,r1,-⟩:=HFS.out _ HB15.out;have hk:∀ x,K x\/w3.heap.size<=x->¬ x=g/\(K x\/w.heap.size<=x):=fun x hx=>by
    rcases hx with hx | hx
    ·have h6:=(HKK.out x hx).1;exact⟨by omega,.inl hx⟩
    ·exact⟨by omega,.inr (by omega)⟩
   have hr:=RepT.of (k:=13) (n:=n) (fs:=[]) (A':=B) (c':=d) HTS.out (HL5.out.but HSB hk) ⟨b1,o1,⟨r1.le,r1.big,r1.none,fun h=>absurd h (by simp)⟩,fun i h=>absurd h (by simp)⟩ (HV5.out.but HSB hk);rw[List.length_map,List.length_map] at hr;exact hr
  ·exact (HS5.out.but HSB (fun e=>by have e:sb=g:=e;omega) (fun x h=>.inl (.inr (.inl h))) fun x hx e=>by have h6:=(HKK.out x hx).1;have e:x=g:=e;omega).more fun x h=>.inl (.inl h)
theorem Xl {n0:ByteArray} {u:Ty} {K Z:Nat->Prop} {wk sb nd:Nat} {w:World} {bp op a g2:Nat} {m:Option Nat} {n:Int} {s:ByteArray} {p0 p1 p2 p3:Ty} {A B C:Option Addr} {c d e:Nat}
  (hat:∀ wx,ButG (fun x=>x=sb\/x=wk\/x=g2) w wx->wx.cell? ⟨bp,op+1,none⟩=some (.string s)/\wx.cell? ⟨bp,op+2,none⟩=some (.int .i64 n)/\wx.cell? ⟨bp,op+3,none⟩=some (.slice A 4 c)) (hP:ListT K w [p0,p1,p2,p3] A c) (hK:∀ x,K x->x<w.heap.size/\x≠sb/\x≠wk/\x≠g2) (hE:∀ wx,ButG (fun x=>x=sb\/x=wk\/x=g2) w wx->EnvP wk sb n0 wx m true) (hmg:m≠some g2) (hS:StaS K Z w sb u nd) (hZs:Z sb) (hZw:Z wk) (hZg:Z g2) (hZl:∀ x,Z x->x<w.heap.size) (hwk:w.heap[wk]?=some (.cells #[.int .i64 (a:Int)] 85 (0,0))) (hws:wk≠sb) (hg2:g2≠sb/\g2≠wk) (hx2:w.heap[g2]?=some (.cells #[.int .i64 21,.string s,.int .i64 n,.slice A 4 c,.slice B 0 d,.slice C 0 e] 26 (0,0))) (hct:a+An [p0,p1,p2,p3]<=4096) (hfp:∀ p∈[p0,p1,p2,p3],Ab p=true/\Da p=true) (ihp:∀ p∈[p0,p1,p2,p3],Lw n0 u p) (hfu:Ab u=true/\Da u=true/\Ai u<=5000) {act1 act2:Bool} (hact1:act1=if n=1 then Ew true [s] n0 (D6 [p0,p1,p2,p3]) else true) (hact2:act2=Ew act1 (Aw p1) n0 p2) (hcap1:n=1->Bl n0 (D6 [p0,p1,p2,p3])=true->Cl [s] n0=false->∀ x∈[s],Bl x u=false) (hcap2:act1=true->Bl n0 p2=true->Cl (Aw p1) n0=false->∀ x∈Aw p1,Bl x u=false) (hnd:((nd=1/\Ai u=1)\/Bl n0 p0=false)/\(act1=true->(nd=1/\Ai u=1)\/Bl n0 p1=false)/\(act2=true->(nd=1/\Ai u=1)\/Bl n0 p2=false)/\(act1=true->(nd=1/\Ai u=1)\/Bl n0 p3=false)) :
  Calls Tryz.prog 84 #[.pointer (some ⟨wk,0,none⟩),.pointer (some ⟨bp,op,none⟩),.pointer (some ⟨g2,0,none⟩),.map m] w (fun r w'=>r=.returned (.tuple #[])/\∃ A' c',w'.heap[g2]?=some (.cells #[.int .i64 21,.string s,.int .i64 n,(.slice A' 4 c'),.slice B 0 d,.slice C 0 e] 26 (0,0))/\ListT (fun x=>K x\/w.heap.size<=x) w' [Ak n0 u p0,if act1=true then Ak n0 u p1 else p1,if act2=true then Ak n0 u p2 else p2,if act1=true then Ak n0 u p3 else p3] A' c'/\w'.heap[wk]?=some (.cells #[.int .i64 ((a+An [p0,p1,p2,p3]:Nat):Int)] 85 (0,0))/\StaS K Z w' sb u nd/\ButG (fun x=>x=sb\/x=wk\/x=g2) w w'):=by
 by_cases hn:n=1
 ·rw[if_pos hn] at hact1;exact Jd2 hat hP hK hE hmg hS hZs hZw hZg hZl hwk hws hg2 hx2 hct hfp ihp hfu hact1 hact2 hn (hcap1 hn) hcap2 hnd
 ·rw[if_neg hn] at hact1;exact Jd1 hat hP hK hE hmg hS hZs hZw hZg hZl hwk hws hg2 hx2 hct hfp ihp hfu hact1 hact2 hn hcap2 hnd
theorem Pg (x:ByteArray) (p0 p1 p2 p3:Ty):Bl x (D6 [p0,p1,p2,p3])=(Bl x p1 || ((!Cl (Aw p1) x && Bl x p2) || Bl x p3)):=by
 have h:D6 [p0,p1,p2,p3]=.mk 21 Bk 0 [E7 1,p1,p2,p3] [] []:=rfl;have e:Bl x (E7 1)=false:=by unfold E7;rw[Ef];simp[J1,Em,Mj,Dq]
 rw[h,Je,e];simp
theorem Pd (x s:ByteArray) (t:Ty):Ew true [s] x t=(Bl x t && !decide (s=x)):=by
 unfold Ew;simp[Cl]
theorem Jbi {x:ByteArray} {u p0 p1 p2 p3:Ty} {n:Int} {s:ByteArray} {act1 act2:Bool} (h1:Ab p1=true) (h2:Ab p2=true) (h3:Ab p3=true) (ha1:act1=if n=1 then Ew true [s] x (D6 [p0,p1,p2,p3]) else true) (ha2:act2=Ew act1 (Aw p1) x p2) :
  Ak x u (.mk 21 s n [p0,p1,p2,p3] [] [])=.mk 21 s n [Ak x u p0,if act1=true then Ak x u p1 else p1,if act2=true then Ak x u p2 else p2,if act1=true then Ak x u p3 else p3] [] []:=by
 rw[Cr,if_neg (by simp),if_neg (by decide)];simp only[Cv,List.map_nil];have e0:(Dq ([]:Bm) x || C5 21 s n [p0,p1,p2,p3] 0 x)=false:=by simp[Dq,C5]
 have e1:(Dq ([]:Bm) x || C5 21 s n [p0,p1,p2,p3] (0+1) x)=((n == 1) && decide (s=x)):=by simp[Dq,C5]
 have e2:(Dq ([]:Bm) x || C5 21 s n [p0,p1,p2,p3] (0+1+1) x)=(((n == 1) && decide (s=x)) || Cl (Aw p1) x):=by simp[Dq,C5,Df]
 have e3:(Dq ([]:Bm) x || C5 21 s n [p0,p1,p2,p3] (0+1+1+1) x)=((n == 1) && decide (s=x)):=by simp[Dq,C5]
 have hA:∀ p:Ty,Ab p=true->(Bl x (D6 [p0,p1,p2,p3])=false->Bl x p=false)->(if ((n == 1) && decide (s=x))=true then p else Ak x u p)=if act1=true then Ak x u p else p:=fun p hp hfr=>by
  rw[ha1];by_cases hn:n=1
  ·rw[if_pos hn,Pd];by_cases hs:s=x
   ·simp[hn,hs]
   ·rw[decide_eq_false hs];simp only[Bool.and_false,Bool.not_false,Bool.and_true];rw[if_neg (by decide)]
    cases hb:Bl x (D6 [p0,p1,p2,p3]) with
    | true=>rfl
    | false=>rw[Do x u p hp (hfr hb)];rfl
  ·have hn2:(n == 1)=false:=beq_eq_false_iff_ne.2 hn;rw[if_neg hn,hn2];rfl
 have g0:(if (Dq ([]:Bm) x || C5 21 s n [p0,p1,p2,p3] 0 x)=true then p0 else Ak x u p0)=Ak x u p0:=if_neg (by rw[e0];decide);have g1:=hA p1 h1 fun h=>by rw[Pg,Bool.or_eq_false_iff] at h;exact h.1
 have g3:=hA p3 h3 fun h=>by rw[Pg,Bool.or_eq_false_iff,Bool.or_eq_false_iff] at h;exact h.2.2
 have g2:(if (((n == 1) && decide (s=x)) || Cl (Aw p1) x)=true then p2 else Ak x u p2)=if act2=true then Ak x u p2 else p2:=by
  have hem:(Aw p1).isEmpty=true->Cl (Aw p1) x=false:=fun h=>by
   rw[List.isEmpty_iff] at h;rw[h];rfl
  rw[ha2];unfold Ew;by_cases hi:Cl (Aw p1) x=true
  ·have he:(Aw p1).isEmpty=false:=Bool.eq_false_iff.2 fun e=>by rw[hem e] at hi;cases hi
   rw[hi,he];simp
  ·rw[Bool.not_eq_true] at hi;rw[hi,Bool.or_false];rw[ha1];by_cases hn:n=1
   ·rw[if_pos hn,Pd];by_cases hs:s=x
    ·simp[hn,hs]
    ·rw[decide_eq_false hs];simp only[Bool.and_false,Bool.not_false,Bool.and_true];rw[if_neg (by decide)]
     cases hb:Bl x (D6 [p0,p1,p2,p3]) with
     | true=>
      cases hf:Bl x p2 with
      | true=>simp
      | false=>rw[Do x u p2 h2 hf];simp
     | false=>
      have hb2:=hb;rw[Pg,hi,Bool.or_eq_false_iff,Bool.or_eq_false_iff] at hb2;have hf:Bl x p2=false:=(by simpa using hb2.2.1);rw[Do x u p2 h2 hf];simp
   ·have hn2:(n == 1)=false:=beq_eq_false_iff_ne.2 hn;rw[if_neg hn,hn2]
    cases hf:Bl x p2 with
    | true=>simp
    | false=>rw[Do x u p2 h2 hf];simp
 have f1:=(congrArg (fun b:Bool=>if b=true then p1 else Ak x u p1) e1).trans g1;have f2:=(congrArg (fun b:Bool=>if b=true then p2 else Ak x u p2) e2).trans g2;have f3:=(congrArg (fun b:Bool=>if b=true then p3 else Ak x u p3) e3).trans g3;rw[g0,f1,f2,f3]
theorem Jc6 {n0:ByteArray} {u:Ty} {K Z:Nat->Prop} {wk sb nd:Nat} {w:World} {bp op a:Nat} {m:Option Nat} {n:Int} {s:ByteArray} {p0 p1 p2 p3:Ty} (ha:AtT K w (.mk 21 s n [p0,p1,p2,p3] [] []) bp op) (hbp:bp≠sb/\bp≠wk) (hK:∀ x,K x->x<w.heap.size/\x≠sb/\x≠wk) (hE:EnvP wk sb n0 w m true) (hS:StaS K Z w sb u nd) (hZs:Z sb) (hZw:Z wk) (hZl:∀ x,Z x->x<w.heap.size) (hwk:w.heap[wk]?=some (.cells #[.int .i64 (a:Int)] 85 (0,0))) (hws:wk≠sb) (hct:a+Ai (.mk 21 s n [p0,p1,p2,p3] [] [])<=4096) (hfm:Ab (.mk 21 s n [p0,p1,p2,p3] [] [])=true/\Da (.mk 21 s n [p0,p1,p2,p3] [] [])=true) (hnd:(nd=1/\Ai u=1)\/Bl n0 (.mk 21 s n [p0,p1,p2,p3] [] [])=false) (hfu:Ab u=true/\Da u=true/\Ai u<=5000) (hcap1:n=1->Bl n0 (D6 [p0,p1,p2,p3])=true->Cl [s] n0=false->∀ x∈[s],Bl x u=false) (hcap2:Bl n0 p2=true->Cl (Aw p1) n0=false->∀ x∈Aw p1,Bl x u=false) (ihp:∀ p∈[p0,p1,p2,p3],Lw n0 u p) :
  Calls Tryz.prog 43 #[.pointer (some ⟨wk,0,none⟩),.pointer (some ⟨bp,op,none⟩),.map m] w (Bx n0 u K Z wk sb nd w true a (.mk 21 s n [p0,p1,p2,p3] [] [])):=by
 have hcn:Ai (.mk 21 s n [p0,p1,p2,p3] [] [])=1+An [p0,p1,p2,p3]:=by rw[Br];show 1+(An [p0,p1,p2,p3]+(Bd []+Be []))=_;unfold Bd Be;simp
 obtain⟨-,-,gv3,-⟩:=E6 hfm.2;have hfp:∀ p∈[p0,p1,p2,p3],Ab p=true/\Da p=true:=fun p hp=>⟨Ci hfm.1 p hp,gv3 p hp⟩;obtain⟨act1,hact1⟩:∃ b:Bool,b=if n=1 then Ew true [s] n0 (D6 [p0,p1,p2,p3]) else true:=⟨_,rfl⟩
 obtain⟨act2,hact2⟩:∃ b:Bool,b=Ew act1 (Aw p1) n0 p2:=⟨_,rfl⟩;have hsu:=Jbi (u:=u) (p0:=p0) (hfp p1 (by simp)).1 (hfp p2 (by simp)).1 (hfp p3 (by simp)).1 hact1 hact2;have hnds:((nd=1/\Ai u=1)\/Bl n0 p0=false)/\(act1=true->(nd=1/\Ai u=1)\/Bl n0 p1=false)/\(act2=true->(nd=1/\Ai u=1)\/Bl n0 p2=false)/\(act1=true->(nd=1/\Ai u=1)\/Bl n0 p3=false):=by
  rcases hnd with h | h
  ·exact⟨.inl h,fun _=>.inl h,fun _=>.inl h,fun _=>.inl h⟩
  ·rw[Je,Bool.or_eq_false_iff] at h;obtain⟨h0,h⟩:=h;have hin:act1=true->Bl n0 p1=false/\(!Cl (Aw p1) n0 && Bl n0 p2)=false/\Bl n0 p3=false:=fun ha=>by
    have hc:((n == 1) && decide (s=n0))=false:=by
     rw[hact1] at ha;by_cases hn:n=1
     ·rw[if_pos hn,Pd,Bool.and_eq_true,Bool.not_eq_true'] at ha;rw[ha.2,Bool.and_false]
     ·rw[show (n == 1)=false from beq_eq_false_iff_ne.2 hn];rfl
    rw[hc,Bool.not_false,Bool.true_and,Bool.or_eq_false_iff,Bool.or_eq_false_iff] at h;exact⟨h.1,h.2.1,h.2.2⟩
   refine⟨.inr h0,fun ha=>.inr (hin ha).1,fun ha=>.inr ?_,fun ha=>.inr (hin ha).2.2⟩;rw[hact2] at ha;unfold Ew at ha;rw[Bool.and_eq_true] at ha;have h1:=(hin ha.1).2.1;have h2:Cl (Aw p1) n0=false:=by
    cases he:(Aw p1).isEmpty with
    | true=>rw[List.isEmpty_iff] at he;rw[he];rfl
    | false=>
     have h3:=ha.2;rw[he,Bool.false_or,Bool.and_eq_true,Bool.not_eq_true'] at h3;exact h3.2
   rw[h2] at h1;simpa using h1
 obtain⟨PO,hPO⟩:∃ PO:Ending->World->Prop,PO=Bx n0 u K Z wk sb nd w true a (.mk 21 s n [p0,p1,p2,p3] [] []):=⟨_,rfl⟩;have HFIN:Hid (∀ e w',(∃ rs:List Value,e=.returned (.agg rs.toArray)/\RepT (fun x=>K x\/w.heap.size<=x) w' (Ak n0 u (.mk 21 s n [p0,p1,p2,p3] [] [])) rs/\w'.heap[wk]?=some (.cells #[.int .i64 ((a+Ai (.mk 21 s n [p0,p1,p2,p3] [] []):Nat):Int)] 85 (0,0))/\StaS K Z w' sb u nd/\ButG (fun x=>x=sb\/x=wk) w w')->PO e w'):=Hd fun e w' h=>by
  rw[hPO];unfold Bx;rw[if_pos rfl];exact h
 rw[<-hPO];have hmw:wk<w.heap.size:=(Array.getElem?_eq_some_iff.1 hwk).1;have hsb:sb<w.heap.size:=hZl sb hZs;refine Hy ha hbp hK ⟨hmw,hsb⟩ fun A c B d C e w1 g h=>?_;obtain⟨HX,HY,HB1,HS1,HG,HW1,HP,HFS,HVS,HTS,HMG,HRP⟩:=h;have HC1:=Hd (Bc HB1.out hmw hwk);have HKK:=Hd hK;have HWS:=Hd hws;have HZW:=Hd hZw;have HE:=Hd hE;have hE1:=hE.but (ButG.of_below (O:=fun _=>False) HB1.out) fun _ h=>h.elim;obtain⟨z,hz,hz2⟩:=hE1.len;have f1:¬ z=0:=of_decide_eq_false hz2;have lk:=hE1.look s (Nat.le_trans HTS.out (by decide));obtain⟨n1,hn1⟩:∃ n1,n1=a+1:=⟨_,rfl⟩;obtain⟨w2,hw2⟩:∃ x,x=w1.setCell ⟨wk,0,none⟩ (.int .i64 ((a:Int)+1)):=⟨_,rfl⟩;have hb2':ButG (fun x=>x=wk) w1 w2:=by rw[hw2];exact (ButG.refl (fun x=>x=wk) w1).put1 0 _
 have hc2:w2.heap[wk]?=some (.cells #[.int .i64 (n1:Int)] 85 (0,0)):=by rw[hw2,hn1];exact Co HC1.out 0 _
 obtain⟨g2,hg2⟩:∃ x,x=w2.heap.size:=⟨_,rfl⟩;have hsz2:w2.heap.size=w1.heap.size:=by rw[hw2];simp
 obtain⟨w3,hw3⟩:∃ x,x=w2.alloc (.cells #[.int .i64 21,.string s,.int .i64 n,.slice A 4 c,.slice B 0 d,.slice C 0 e] 26):=⟨_,rfl⟩;have hb3:Below w2.heap.size w2 w3:=by rw[hw3];exact (Below.refl _ _).alloc (Nat.le_refl _) _
 have hb13':ButG (fun x=>x=wk) w1 w3:=hb2'.then hb3;have hb03':ButG (fun x=>x=wk) w w3:=(ButG.of_below (O:=fun x=>x=wk) HB1.out).trans hb13' fun x h=>.inl h;have hb13:ButG (fun x=>x=sb\/x=wk) w1 w3:=hb13'.mono fun x h=>.inr h;have HC3:Hid (w3.heap[wk]?=some (.cells #[.int .i64 (n1:Int)] 85 (0,0))):=Hd (Bc hb3 (Array.getElem?_eq_some_iff.1 hc2).1 hc2);have HS3:Hid (StaS K (fun x=>Z x\/x=g\/x=g2) w3 sb u nd):=Hd ((hS.more fun x h=>h.elim .inl fun e=>.inr (by have h1:=HG.out;have h2:=HS1.out;omega)).but hb03' (fun h=>hws h.symm) (fun x h=>.inl (.inl (h ▸ hZw))) fun x hx=>(hK x hx).2.2);have HE3:Hid (EnvP wk sb n0 w3 m true):=Hd (hE.but hb03' fun x h=>.inl h);have HSZ3:Hid (w.heap.size<w3.heap.size/\g<w3.heap.size):=Hd (by have h1:=HS1.out;have h2:=HG.out;have h3:=hb13.size;omega);have HZ:Hid ((Z sb/\Z wk)/\∀ x,Z x->x<w.heap.size):=Hd ⟨⟨hZs,hZw⟩,hZl⟩;have HW2:=Hd hw2;have HB2:Hid (ButG (fun x=>x=sb\/x=wk) w1 w2):=Hd (hb2'.mono fun x h=>.inr h);have HW3:=Hd hw3;have HB13:=Hd hb13;have c0:=Ch HC1.out 0;have c1:=Lib.frozen_of_heap HC1.out 0;simp only[List.getElem?_toArray,List.getElem?_cons_zero] at c0;have t1:decide ((4096:Int)<(a:Int))=false:=decide_eq_false (by omega);have t1':¬ (4096:Int)<(a:Int):=by omega
 have t1'':¬ 4096<a:=by omega
 obtain⟨x0,x1,x2,x3,x4,x5⟩:=HX.out w1 (ButG.refl _ _);have hsz3:w3.heap.size=g2+1:=by rw[hw3,hg2];simp
 have HO3:Hid (w3.heap[g2]?=some (.cells #[.int .i64 21,.string s,.int .i64 n,.slice A 4 c,.slice B 0 d,.slice C 0 e] 26 (0,0))):=Hd (by rw[hw3,hg2];exact heap_alloc_new w2 _);have HG2:=Hd hg2;have HS33:=Hd hsz3;have HG2G:Hid (w1.heap.size<=g2/\g<g2):=Hd (by have h1:=HS1.out;omega);have HG2N:Hid (¬ (g2=sb\/g2=wk)):=Hd (by have h1:=HMG.out;have h2:=HG2G.out;omega);have HEA:Hid (∀ wx,ButG (fun x=>x=sb\/x=wk) w wx->EnvP wk sb n0 wx m true):=Hd fun wx hx=>hE.but hx fun x h=>h.elim (fun e=>.inr (.inl e)) .inl;have h3G:∀ wx,ButG (fun x=>x=sb\/x=wk\/x=g2) w3 wx->ButG (fun x=>x=sb\/x=wk) w1 wx:=fun wx hx=>hb13.trans hx fun x h=>by have h1:=HG2G.out;rcases h with h | h | h;exact .inl (.inl h);exact .inl (.inr h);exact .inr (by omega)
 have hmg:m≠some g2:=fun e=>by
  subst e;have h1:=hE.2.2.1;have h2:=HG2G.out;have h3:=HG.out;omega
 have KF0:=Xl (K:=K) (Z:=fun x=>Z x\/x=g\/x=g2) (wk:=wk) (sb:=sb) (nd:=nd) (w:=w3) (bp:=bp) (op:=op) (a:=n1) (g2:=g2) (m:=m) (n:=n) (s:=s) (p0:=p0) (p1:=p1) (p2:=p2) (p3:=p3) (A:=A) (B:=B) (C:=C) (c:=c) (d:=d) (e:=e) (n0:=n0) (u:=u)
  (fun wx hx=>by have h:=HX.out wx (h3G wx hx);exact⟨h.2.1,h.2.2.1,h.2.2.2.1⟩) (HP.out w3 hb13) (fun x hx=>⟨Nat.lt_trans (hK x hx).1 HSZ3.out.1,(hK x hx).2.1,(hK x hx).2.2,by have h1:=(hK x hx).1;have h2:=HG2G.out;have h3:=HG.out;omega⟩) (fun wx hx=>by
   refine EnvP.butM (O:=(fun x=>x=sb\/x=wk\/x=g2)) hE ((((ButG.of_below (O:=(fun x=>x=sb\/x=wk\/x=g2)) HB1.out).trans hb13 fun x h=>.inl (h.imp id .inl))).trans hx fun x h=>.inl h) fun x h=>?_;rcases h with h | h | h
   ·exact .inr (.inl h)
   ·exact .inl h
   ·exact .inr (.inr (.inl (by have h2:=HG2G.out;have h3:=HG.out;omega)))) hmg HS3.out (.inl hZs) (.inl hZw) (.inr (.inr rfl)) (fun x h=>by
   have h1:=HSZ3.out;have h2:=HS33.out;rcases h with h | h | h
   ·have:=hZl x h;omega
   ·omega
   ·omega) HC3.out hws ⟨by have:=HG2N.out;omega,by have:=HG2N.out;omega⟩ HO3.out (by omega) hfp ihp hfu hact1 hact2 hcap1 (fun _=>hcap2) hnds
 have KF:=Hd KF0;have HSU:=Hd hsu;have HCN:Hid (n1+An [p0,p1,p2,p3]=a+Ai (.mk 21 s n [p0,p1,p2,p3] [] [])):=Hd (by omega);clear ha hbp hK hE hS hZs hZw hZl hwk hws hct hmw hsb hPO hz2 hE1 hfm hnd hfu hcap1 hcap2 ihp hcn hn1 hw2 hb2' hc2 hw3 hb3 hb13' hb03' hb13 hsz2 hsz3 hg2 gv3 hfp h3G KF0 hmg hact1 hact2 hsu hnds;go_enter Tryz.func43,Tryz.ntmps43;go_upto_region 1 with fail
 rw[<-HW1.out,<-HG.out];by_cases hq:n0=s
 ·rw[show (true && decide (n0=s))=true by simp[hq],if_pos rfl] at lk;go_upto_region 11 with fail
  clear c0 c1 lk hz x0 x1 x2 x3 x4 x5;rw[<-HW2.out];obtain⟨x0,x1,x2,x3,x4,x5⟩:=HX.out w2 HB2.out;go_upto_region 12 with fail
  clear x0 x1 x2 x3 x4 x5;rw[<-HW3.out,<-HG2.out];obtain⟨x0,x1,x2,x3,x4,x5⟩:=HX.out w3 HB13.out;go_upto_region 30 with fail
  go_wp2_with fail;refine KF.out.mono ?_;rintro r w5 ⟨rfl,A',c',hx5,hl5,hc5,hs5,hb5⟩;have HB15:Hid (ButG (fun x=>x=sb\/x=wk) w1 w5):=Hd (HB13.out.trans hb5 fun x h=>by have h1:=HG2G.out;rcases h with h | h | h;exact .inl (.inl h);exact .inl (.inr h);exact .inr (by omega));have HX5:=Hd hx5;have HL5:=Hd hl5;have HC5:=Hd hc5;have HS5:=Hd hs5;have rb:=HY.out _ HB15.out;clear hx5 hl5 hc5 hs5 hb5 KF x0 x1 x2 x3 x4 x5;obtain⟨x0,x1,x2,x3,x4,x5⟩:=Fs HX5.out;obtain⟨q0,q1,q2,q3,q4,q5,z0,z1,z2,z3,z4,z5⟩:=Jp rb;have RBX:=Hd rb;clear rb;go_wp2_with fail;obtain⟨r0,r1,r2,r3,r4,r5⟩:=Fs (B5 RBX.out (.int .i64 21) (.string s) (.int .i64 n) ((.slice A' 4 c')) (.slice B 0 d) (.slice C 0 e));clear q0 q1 q2 q3 q4 q5 z0 z1 z2 z3 z4 z5;refine bodyPost_ret (v:=.agg #[.int .i64 21,.string s,.int .i64 n,(.slice A' 4 c'),.slice B 0 d,.slice C 0 e]) (by simp[results,Tryz.results43,go_sem,r0,r1,r2,r3,r4,r5]) rfl ?_;clear r0 r1 r2 r3 r4 r5;have HSB:=Cu w5 g (.int .i64 21) (.string s) (.int .i64 n) ((.slice A' 4 c')) (.slice B 0 d) (.slice C 0 e);have h1:=HCN.out;have h2:=HMG.out;have h3:=HG.out;have h4:=HG2G.out;have h5:=HS33.out;refine HFIN.out _ _ ⟨[.int .i64 21,.string s,.int .i64 n,(.slice A' 4 c'),.slice B 0 d,.slice C 0 e],rfl,?_,by rw[<-h1];exact HSB.up (by show ¬ wk=g;omega) HC5.out,?_,Dl HB1.out HB15.out HG.out HSB⟩
  ·rw[HSU.out];obtain⟨b1,o1,r1,-⟩:=HFS.out _ HB15.out;obtain⟨b2,o2,r2,-⟩:=HVS.out _ HB15.out;have hk:∀ x,K x\/w3.heap.size<=x->¬ x=g/\(K x\/w.heap.size<=x):=fun x hx=>by
    rcases hx with hx | hx
    ·have h6:=(HKK.out x hx).1;exact⟨by omega,.inl hx⟩
    ·exact⟨by omega,.inr (by omega)⟩
   exact RepT.of (k:=21) (n:=n) (fs:=[]) (vs:=[]) (A':=B) (c':=d) (A'':=C) (c'':=e) HTS.out (HL5.out.but HSB hk) ⟨b1,o1,⟨r1.le,r1.big,r1.none,fun h=>absurd h (by simp)⟩,fun i h=>absurd h (by simp)⟩ ⟨b2,o2,⟨r2.le,r2.big,r2.none,fun h=>absurd h (by simp)⟩,fun i h=>absurd h (by simp)⟩
  ·exact (HS5.out.but HSB (fun e=>by have e:sb=g:=e;omega) (fun x h=>.inl (.inr (.inl h))) fun x hx e=>by have h6:=(HKK.out x hx).1;have e:x=g:=e;omega).more fun x h=>.inl (.inl h)
 ·rw[show (true && decide (n0=s))=false by simp[hq],if_neg (by decide)] at lk;go_upto_region 11 with fail
  clear c0 c1 lk hz x0 x1 x2 x3 x4 x5;rw[<-HW2.out];obtain⟨x0,x1,x2,x3,x4,x5⟩:=HX.out w2 HB2.out;go_upto_region 12 with fail
  clear x0 x1 x2 x3 x4 x5;rw[<-HW3.out,<-HG2.out];obtain⟨x0,x1,x2,x3,x4,x5⟩:=HX.out w3 HB13.out;go_upto_region 30 with fail
  go_wp2_with fail;refine KF.out.mono ?_;rintro r w5 ⟨rfl,A',c',hx5,hl5,hc5,hs5,hb5⟩;have HB15:Hid (ButG (fun x=>x=sb\/x=wk) w1 w5):=Hd (HB13.out.trans hb5 fun x h=>by have h1:=HG2G.out;rcases h with h | h | h;exact .inl (.inl h);exact .inl (.inr h);exact .inr (by omega));have HX5:=Hd hx5;have HL5:=Hd hl5;have HC5:=Hd hc5;have HS5:=Hd hs5;have rb:=HY.out _ HB15.out;clear hx5 hl5 hc5 hs5 hb5 KF x0 x1 x2 x3 x4 x5;obtain⟨x0,x1,x2,x3,x4,x5⟩:=Fs HX5.out;obtain⟨q0,q1,q2,q3,q4,q5,z0,z1,z2,z3,z4,z5⟩:=Jp rb;have RBX:=Hd rb;clear rb;go_wp2_with fail;obtain⟨r0,r1,r2,r3,r4,r5⟩:=Fs (B5 RBX.out (.int .i64 21) (.string s) (.int .i64 n) ((.slice A' 4 c')) (.slice B 0 d) (.slice C 0 e));clear q0 q1 q2 q3 q4 q5 z0 z1 z2 z3 z4 z5;refine bodyPost_ret (v:=.agg #[.int .i64 21,.string s,.int .i64 n,(.slice A' 4 c'),.slice B 0 d,.slice C 0 e]) (by simp[results,Tryz.results43,go_sem,r0,r1,r2,r3,r4,r5]) rfl ?_;clear r0 r1 r2 r3 r4 r5;have HSB:=Cu w5 g (.int .i64 21) (.string s) (.int .i64 n) ((.slice A' 4 c')) (.slice B 0 d) (.slice C 0 e);have h1:=HCN.out;have h2:=HMG.out;have h3:=HG.out;have h4:=HG2G.out;have h5:=HS33.out;refine HFIN.out _ _ ⟨[.int .i64 21,.string s,.int .i64 n,(.slice A' 4 c'),.slice B 0 d,.slice C 0 e],rfl,?_,by rw[<-h1];exact HSB.up (by show ¬ wk=g;omega) HC5.out,?_,Dl HB1.out HB15.out HG.out HSB⟩
  ·rw[HSU.out];obtain⟨b1,o1,r1,-⟩:=HFS.out _ HB15.out;obtain⟨b2,o2,r2,-⟩:=HVS.out _ HB15.out;have hk:∀ x,K x\/w3.heap.size<=x->¬ x=g/\(K x\/w.heap.size<=x):=fun x hx=>by
    rcases hx with hx | hx
    ·have h6:=(HKK.out x hx).1;exact⟨by omega,.inl hx⟩
    ·exact⟨by omega,.inr (by omega)⟩
   exact RepT.of (k:=21) (n:=n) (fs:=[]) (vs:=[]) (A':=B) (c':=d) (A'':=C) (c'':=e) HTS.out (HL5.out.but HSB hk) ⟨b1,o1,⟨r1.le,r1.big,r1.none,fun h=>absurd h (by simp)⟩,fun i h=>absurd h (by simp)⟩ ⟨b2,o2,⟨r2.le,r2.big,r2.none,fun h=>absurd h (by simp)⟩,fun i h=>absurd h (by simp)⟩
  ·exact (HS5.out.but HSB (fun e=>by have e:sb=g:=e;omega) (fun x h=>.inl (.inr (.inl h))) fun x hx e=>by have h6:=(HKK.out x hx).1;have e:x=g:=e;omega).more fun x h=>.inl (.inl h)
end Go.Proofs.YtlpfpehegddcfaaGreatDoor
