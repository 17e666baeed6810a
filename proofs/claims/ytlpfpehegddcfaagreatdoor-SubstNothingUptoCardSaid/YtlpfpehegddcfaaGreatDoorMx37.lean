import Derived.Test.YtlpfpehegddcfaaGreatDoorMx35
namespace Go.Proofs.YtlpfpehegddcfaaGreatDoor
set_option maxRecDepth 100000
set_option maxHeartbeats 64000000
open Go.RowKit
theorem Kf {w:World}{base:Nat}{e:TypeId}{size n:Nat}{v:Value}{xs:List Value}(h:w.ownsRow base e size v n xs) {b:Nat}(hb:v.ownBlock=some b):∃c,w.heap[b]?=some (.cells c e (0,0)):=by
 rcases h.2 with ⟨hv,-⟩|⟨g,cap,cur,hv,hB,hh,-⟩
 ·rw[hv]at hb;cases hb
 ·rw[hv]at hb;have e1:some g=some b:=hb;injection e1 with e1
  subst e1;exact⟨_,hh⟩
theorem U1 {B:Nat}{K:Nat->Prop}{w0 w:World}{v v':Value}{l:List Z8}{ts:List Ty}(h:Ua B w v l) (ho:Cs K w0 w v' ts) {b:Nat}(h1:v.ownBlock=some b) (h2:v'.ownBlock=some b):False:=by
 obtain⟨c1,e1⟩:=Kf h h1;obtain⟨vs,ho,-⟩:=ho;obtain⟨c2,e2⟩:=Kf ho h2;rw[e1]at e2;injection e2 with e2
 injection e2 with _ e2
 exact absurd e2 (by decide)
theorem Cp.butM {wk sb:Nat}{n0:Z8}{w w':World}{m:Option Nat}{act:Bool}{O:Nat->Prop}(h:Cp wk sb n0 w m act) (hb:Ad O w w') (hO:∀x,O x->x=wk\/x=sb\/w.heap.size<=x\/m≠some x):Cp wk sb n0 w' m act:=by
 cases m with
 | none=>exact h
 | some b=>
  obtain⟨h1,h2,h3,n,h4,h5⟩:=h;refine⟨h1,h2,Nat.lt_of_lt_of_le h3 hb.size,n,h4,h5.keep (hb.block b h3 fun e=>?_)⟩;rcases hO b e with h|h|h|h
  ·exact h2 h
  ·exact h1 h
  ·omega
  ·exact h rfl
theorem O4 (l:List Nat) (i:Nat):(l.take i).sum<=l.sum:=by
 induction l generalizing i with
 | nil=>simp
 | cons a l ih=>
  cases i with
  | zero=>simp
  | succ i=>
   rw[List.take_succ_cons,List.sum_cons,List.sum_cons];exact Nat.add_le_add_left (ih i) _
def Ff (act:Bool) (N:List Z8) (x:Z8) (t:Ty):Bool:=act && (N.isEmpty || (Bp x t && !Dc N x))
theorem P8.setq {P:Nat->Prop}{w:World}{g i d q:Nat}{l:Bt}{nm:Z8}{b:List Ty}{B:Option Addr}(h:P8 P w g l) (hP:∀x,P x->x≠g) (hi:i<l.length) (hA:nm.size<=1000000000000000) (hq:q=b.length) (ht:Bk P w b B d):P8 P (Kg w g (i*2) (.string nm) (.slice B q d)) g (l.set i (nm,b)):=by
 subst hq;exact h.set hP hi hA ht
theorem Po (x:Z8) (ps:List Ty) (vs:Bt):Bp x (E3 ps vs)=(Gy x ps || Gp x vs):=by
 unfold E3;rw[Dq];simp only[E9,List.any_nil,Bool.not_false,Bool.true_and,Gp,Jc,Bool.or_false,Bool.false_or];rw[G5 (fun i=>G3 (by decide) (by decide) i)];unfold Gy;rw[List.any_append,List.any_flatten,List.any_map];rfl
theorem Qp (ps:List Ty) (vs:Bt):Am (E3 ps vs)=1+(Au ps+Bl vs):=by
 unfold E3;rw[Bu,G1];have:Au (vs.map (·.2)).flatten=Bl vs:=by
  induction vs with
  | nil=>rfl
  | cons a l ih=>
   rw[List.map_cons,List.flatten_cons,G1,ih];unfold Bl;rw[List.map_cons,List.sum_cons]
 rw[this];show 1+(Au ps+Bl vs+(Bm []+Bl []))=_;unfold Bm Bl;simp
theorem Wo {ps:List Ty}{vs:Bt}(hp:∀p∈ps,Aj p=true/\Dk p=true) (hv:∀v∈vs,∀b∈v.2,Aj b=true/\Dk b=true):Aj (E3 ps vs)=true/\Dk (E3 ps vs)=true:=by
 have h:∀p∈ps++(vs.map (·.2)).flatten,Aj p=true/\Dk p=true:=fun p h=>by
  rcases List.mem_append.1 h with h|h
  ·exact hp p h
  ·obtain⟨l,hl,h⟩:=List.mem_flatten.1 h;obtain⟨v,hA,rfl⟩:=List.mem_map.1 hl;exact hv v hA p h
 unfold E3
 constructor
 ·rw[Ay,show Ak 12=⟨false,false,false,false,0,-1,true⟩ from rfl,Bool.and_eq_true,List.all_eq_true];refine⟨?_,fun p hp=>(h p hp).1⟩;unfold Ao Bs;simp[Mh];omega
 ·rw[Hy];simp only[List.length_nil,List.all_nil,Bool.true_and,Bool.and_true,List.all_eq_true,Bool.and_eq_true];exact⟨by decide,fun p hp=>(h p hp).2⟩
theorem S8 {Cc:Prop}{n0:Z8}{u:Ty}{K Z:Nat->Prop}{wk sb nd:Nat}{w:World}{bp op a g2:Nat}{m:Option Nat}{n:Int}{s:Z8}{ps:List Ty}{vs:Bt}{A B C:Option Addr}{c d e:Nat}
  (kF:∀wx,Ad (fun x=>x=sb\/x=wk\/x=g2) w wx->wx.cell? ⟨bp,op+3,none⟩=some (.slice A ps.length c)/\wx.cell? ⟨bp,op+5,none⟩=some (.slice C vs.length e)) (hP:Bk K w ps A c) (hV:Da K w vs C e) (hK:∀x,K x->x<w.heap.size/\x≠sb/\x≠wk/\x≠g2) (hE:∀wx,Ad (fun x=>x=sb\/x=wk\/x=g2) w wx->Cp wk sb n0 wx m true) (hS:Ce K Z w sb u nd) (hX:Z sb) (hY:Z wk) (hW:Z g2) (hG:∀x,Z x->x<w.heap.size) (kU:w.heap[wk]?=some (.cells #[.int .i64 (a:Int)] 85 (0,0))) (kV:wk≠sb) (kM:g2≠sb/\g2≠wk) (kW:w.heap[g2]?=some (.cells #[.int .i64 13,.string s,.int .i64 n,.slice A ps.length c,.slice B 0 d,.slice C vs.length e] 26 (0,0))) (kK:a+(Au ps+Bl vs)<=4096) (kL:∀p∈ps,Aj p=true/\Dk p=true) (ihp:∀p∈ps,Jg Cc n0 u p) (aI:vs=[]) (kQ:∀p∈ps,true=true->(nd=1/\Am u=1/\Cc)\/Bp n0 p=false) :
  Calls Tryz.prog 82 #[.pointer (some ⟨wk,0,none⟩),.pointer (some ⟨bp,op,none⟩),.pointer (some ⟨g2,0,none⟩),.map m] w (fun r w'=>r=.returned (.tuple #[])/\∃A' c' C' e',w'.heap[g2]?=some (.cells #[.int .i64 13,.string s,.int .i64 n,(.slice A' ps.length c'),.slice B 0 d,(.slice C' vs.length e')] 26 (0,0))/\Bk (fun x=>K x\/w.heap.size<=x) w' (ps.map (fun p=>if true=true then Bh n0 u p else p)) A' c'/\Da (fun x=>K x\/w.heap.size<=x) w' (vs.map (fun v:Z8×List Ty=>(v.1,v.2.map (fun p=>if true=true then Bh n0 u p else p)))) C' e'/\w'.heap[wk]?=some (.cells #[.int .i64 ((a+(Au ps+Bl vs):Nat):Int)] 85 (0,0))/\Ce K Z w' sb u nd/\Ad (fun x=>x=sb\/x=wk\/x=g2) w w'):=by
 have kN:g2<w.heap.size:=hG g2 hW;have hH:wk<w.heap.size:=hG wk hY;have kT:sb<w.heap.size:=hG sb hX;have hT:Z9 (g2<w.heap.size/\wk<w.heap.size/\sb<w.heap.size):=Hd ⟨kN,hH,kT⟩;have HX:=Hd kF;have HP:Z9 (∀wx,Ad (fun x=>x=sb\/x=wk\/x=g2) w wx->Bk K wx ps A c):=Hd fun wx hx=>hP.but hx fun x hk=>⟨fun h=>by have:=hK x hk;rcases h with h|h|h;exact this.2.1 h;exact this.2.2.1 h;exact this.2.2.2 h,hk⟩;have aE:Z9 (∀wx,Ad (fun x=>x=sb\/x=wk\/x=g2) w wx->Da K wx vs C e):=Hd fun wx hx=>hV.but hx fun x hk=>⟨fun h=>by have:=hK x hk;rcases h with h|h|h;exact this.2.1 h;exact this.2.2.1 h;exact this.2.2.2 h,hk⟩;have hC:=Hd hK;have HE:=Hd hE;have hU:=Hd hS;have HZ:Z9 (Z sb/\Z wk/\Z g2/\∀x,Z x->x<w.heap.size):=Hd ⟨hX,hY,hW,hG⟩;have kX:=Hd kU;have aG:=Hd kV;have hA:=Hd kM;have aC:=Hd kW;have kY:=Hd kK;have kZ:=Hd kL;have aA:=Hd ihp;have aH:=Ti ps;have aD:Z9 (ps.length<=4096):=Hd (by omega);have KC:=Hd (Nw hP (by omega));subst aI;have aB:=Hd kQ;clear kF hP hV hK hE hS hX hY hW hG kU kV kM kW kK kL ihp kN hH kT aH kQ;go_enter Tryz.func82,Tryz.ntmps82;obtain⟨x3,x5⟩:=HX.o w (Ad.refl _ _);go_wp2_with fail;refine KC.o.mono ?_;rintro r w2 ⟨A5,c5,rfl,ho,hZ⟩;have hL:=Hd hZ;have kP:=ho.list (fun b h=>(hC.o b h).1) hZ (by have:=aD.o;omega);clear ho hZ KC x3 x5;obtain⟨x3,x5⟩:=HX.o w2 (Ad.of_below hL.o);go_wp2_with fail
 go_loopw [8,9,24] (fun vn vp v wr=>(∃i:Nat,v=.int .i64 i)/\vn=.slice none 0 0/\vp=.slice A5 ps.length c5/\wr=w2) (fun _ _ _ _=>0)
 case atStart=>exact⟨⟨0,rfl⟩,rfl,rfl,rfl⟩
 case round=>
  obtain⟨⟨i,rfl⟩,rfl,rfl,hI⟩:=hrel;obtain rfl:w2=wr:=hI.symm;clear hI;have t1:decide ((i:Int)<(([]:Bt).length:Int))=false:=by simp
  have t1':decide ((i:Int)<0)=false:=by simp
  have KN:=Hd (Oa (A:=none) (c:=0) (A3:=A5) (l3:=ps.length) (c3:=c5) (A4:=none) (l4:=0) (c4:=0) (A5:=none) (l5:=0) (c5:=0) (k:=12) (n:=0) (s:=⟨#[]⟩) (HE.o w2 (Ad.of_below hL.o)));go_wp2_with fail;refine KN.o.mono ?_;rintro r w3 ⟨rfl,kG⟩;have hM:Z9 (Below w.heap.size w w3):=Hd (hL.o.trans (kG.mono hL.o.size));have KV:=Hd (Qi (aE.o w3 (Ad.of_below hM.o)));clear kG KN x3 x5;obtain⟨x3,x5⟩:=HX.o w3 (Ad.of_below hM.o);go_wp2_with fail;refine KV.o.mono ?_;rintro r w4 ⟨C',e',rfl,kE,kH⟩;have hN:Z9 (Below w.heap.size w w4):=Hd (hM.o.trans (kH.mono hM.o.size));have HCN:=Hd kE;have kB:=Bj hN.o hT.o.1 aC.o;obtain⟨w5,hO⟩:∃x,x=w4.setCell ⟨g2,5,none⟩ (.slice C' 0 e'):=⟨_,rfl⟩;have aF:=Hd hO;have hB:Ad (fun x=>x=g2) w4 w5:=by rw[hO];exact (Ad.refl (fun x=>x=g2) w4).put1 5 _
  have hD:Ad (fun x=>x=sb\/x=wk\/x=g2) w w5:=(Ad.of_below (O:=(fun x=>x=sb\/x=wk\/x=g2)) hN.o).trans hB fun x h=>.inl (.inr (.inr h));have hJ:w5.heap[g2]?=some (.cells #[.int .i64 13,.string s,.int .i64 n,.slice A ps.length c,.slice B 0 d,(.slice C' 0 e')] 26 (0,0)):=by rw[hO];exact Cw kB 5 _
  have kI:w5.heap[wk]?=some (.cells #[.int .i64 (a:Int)] 85 (0,0)):=hB.up (fun e=>hA.o.2 e.symm) (Bj hN.o hT.o.2.1 kX.o);have kR:Ce K Z w5 sb u nd:=(hU.o.but (Ad.of_below (O:=fun _=>False) hN.o) (fun h=>h) (fun x h=>h.elim) fun _ _ h=>h).but hB (fun e=>hA.o.1 e.symm) (fun x h=>.inl (by rw[show x=g2 from h];exact HZ.o.2.2.1)) fun x hx e=>(hC.o x hx).2.2.2 e;have KA:=Hd (Ln (act:=true) (HP.o w5 hD) (fun x hx=>⟨Nat.lt_of_lt_of_le (hC.o x hx).1 hD.size,(hC.o x hx).2.1,(hC.o x hx).2.2.1⟩) (HE.o w5 hD) kR HZ.o.1 HZ.o.2.1 (fun x h=>Nat.lt_of_lt_of_le (HZ.o.2.2.2 x h) hD.size) kI aG.o (by have:=kY.o;omega) kZ.o (fun p hp _=>aB.o p hp trivial) aA.o);have hQ:=Hd hD;have kD:=Hd hJ;obtain⟨q0,q1,q2,q3,q4,q5,z0,z1,z2,z3,z4,z5⟩:=Je kB;clear kH kE kB hO hB hD hJ kI kR KV x3 x5;go_upto_region 10 with fail
  rw[<-aF.o];clear q0 q1 q2 q3 q4 q5 z0 z1 z2 z3 z4 z5;obtain⟨-,-,-,-,-,b5⟩:=D4 kD.o;go_wp2_with fail;clear b5 t1 t1';obtain⟨wl,hH⟩:∃x:World,x=w5:=⟨_,rfl⟩;have aJ:=Hd hH;clear hH
  go_loopw [59] (fun v wr=>(∃i:Nat,v=.int .i64 i)/\wr=w5) (fun _ _=>0)
  case atStart=>exact⟨⟨0,rfl⟩,rfl⟩
  case round=>
   obtain⟨⟨j,rfl⟩,hI⟩:=hrel;obtain rfl:w5=wr:=hI.symm;clear hI;have t1:decide ((j:Int)<0)=false:=by simp
   obtain⟨x3,x5⟩:=HX.o w5 hQ.o;go_wp2_with fail;refine KA.o.mono ?_;rintro r w6 ⟨A',c',rfl,kO,kJ,kS,kA⟩;have kC:=kA.up (by show ¬ (g2=sb\/g2=wk);have:=hA.o;omega) kD.o;obtain⟨q0,q1,q2,q3,q4,q5,z0,z1,z2,z3,z4,z5⟩:=Je kC;have hF:Ad (fun x=>x=g2) w6 (w6.setCell ⟨g2,3,none⟩ (.slice A' ps.length c')):=(Ad.refl (fun x=>x=g2) w6).put1 3 _;have hR:Z9 (∃A1 c1 C1 e1,(w6.setCell ⟨g2,3,none⟩ (.slice A' ps.length c')).heap[g2]?=some (.cells #[.int .i64 13,.string s,.int .i64 n,.slice A1 ps.length c1,.slice B 0 d,.slice C1 0 e1] 26 (0,0))/\Bk (fun x=>K x\/w.heap.size<=x) (w6.setCell ⟨g2,3,none⟩ (.slice A' ps.length c')) (ps.map (fun p=>if true=true then Bh n0 u p else p)) A1 c1/\Da (fun x=>K x\/w.heap.size<=x) (w6.setCell ⟨g2,3,none⟩ (.slice A' ps.length c')) [] C1 e1/\(w6.setCell ⟨g2,3,none⟩ (.slice A' ps.length c')).heap[wk]?=some (.cells #[.int .i64 ((a+(Au ps+0):Nat):Int)] 85 (0,0))/\Ce K Z (w6.setCell ⟨g2,3,none⟩ (.slice A' ps.length c')) sb u nd/\Ad (fun x=>x=sb\/x=wk\/x=g2) w (w6.setCell ⟨g2,3,none⟩ (.slice A' ps.length c'))):=Hd ⟨A',c',C',e',Cw kC 3 _,kO.but hF fun x hx=>by
     have h1:=hT.o.1;have h2:=hQ.o.size;rcases hx with hx|hx
     ·exact⟨(hC.o x hx).2.2.2,.inl hx⟩
     ·exact⟨fun e=>by have e:x=g2:=e;omega,.inr (by omega)⟩,⟨0,0,⟨Nat.zero_le _,Nat.zero_le _,HCN.o,fun h=>absurd h (by simp)⟩,fun i hi=>absurd hi (by simp)⟩,hF.up (fun e=>hA.o.2 e.symm) kJ,kS.but hF (fun e=>hA.o.1 e.symm) (fun x h=>.inl (by rw[show x=g2 from h];exact HZ.o.2.2.1)) (fun x hx e=>(hC.o x hx).2.2.2 e),(hQ.o.trans kA fun x h=>.inl (h.imp id .inl)).trans hF fun x h=>.inl (.inr (.inr h))⟩
   clear KA x3 x5 kO kJ kS kA kC hF;go_wp2_with fail;exact bodyPost_end (v:=.tuple #[]) (by simp[results,Tryz.results82,go_sem]) rfl ⟨rfl,hR.o⟩
