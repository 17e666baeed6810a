import Derived.Test.YtlpfpehegddcfaaGreatDoorMw26
import Derived.Test.YtlpfpehegddcfaaGreatDoorMw27
import Derived.Test.YtlpfpehegddcfaaGreatDoorMw28
import Derived.Test.YtlpfpehegddcfaaGreatDoorMw29
namespace Go.Proofs.YtlpfpehegddcfaaGreatDoor
set_option maxRecDepth 100000
set_option maxHeartbeats 64000000
open Go.RowKit
structure Jgi (K:Nat->Prop) (mb mf bp op:Nat) (w:World) (k:Int) (s:Z8) (n:Int) (ps:List Ty) (fs:Bv) (vs:Bw) (A:Option Addr) (d:Nat) (A2:Option Addr) (d2:Nat) (A3:Option Addr) (d3:Nat):Prop where
 HX:Z9 (∀wx,Ad (fun x=>x=mb\/x=mf) w wx->(wx.cell? ⟨bp,op,none⟩=some (.int .i64 k)/\wx.cell? ⟨bp,op+1,none⟩=some (.string s)/\wx.cell? ⟨bp,op+2,none⟩=some (.int .i64 n)/\wx.cell? ⟨bp,op+3,none⟩=some (.slice A ps.length d)/\wx.cell? ⟨bp,op+4,none⟩=some (.slice A2 fs.length d2)/\wx.cell? ⟨bp,op+5,none⟩=some (.slice A3 vs.length d3)))
 HP:Z9 (∀wx,Ad (fun x=>x=mb\/x=mf) w wx->Bh K wx ps A d)
 HF:Z9 (∀wx,Ad (fun x=>x=mb\/x=mf) w wx->Du K wx fs A2 d2)
 HV:Z9 (∀wx,Ad (fun x=>x=mb\/x=mf) w wx->Dd K wx vs A3 d3)
 HT:Z9 (s.size<=1000000000000000)
theorem Rc {K:Nat->Prop}{mb mf bp op:Nat}{w:World}{k:Int}{s:Z8}{n:Int}{ps:List Ty}{fs:Bv}{vs:Bw}(ha:Dm K w (.mk k s n ps fs vs) bp op) (hA:bp≠mb/\bp≠mf) (hK:∀x,K x->x<w.heap.size/\x≠mb/\x≠mf):∃A d A2 d2 A3 d3,Jgi K mb mf bp op w k s n ps fs vs A d A2 d2 A3 d3:=by
 obtain⟨cs,h1,h2⟩:=ha;obtain⟨A,d,A2,d2,A3,d3,rfl,ht,hL,hF,hV⟩:=h2.inv;simp only[Ao]at h1;have hk:∀x,K x->¬ (x=mb\/x=mf)/\K x:=fun x hx=>⟨fun e=>e.elim (hK x hx).2.1 (hK x hx).2.2,hx⟩;have hb:¬ (bp=mb\/bp=mf):=fun e=>e.elim hA.1 hA.2;exact⟨A,d,A2,d2,A3,d3,Hd fun wx hx=>⟨hx.cell hb (h1 0 _ rfl),hx.cell hb (h1 1 _ rfl),hx.cell hb (h1 2 _ rfl),hx.cell hb (h1 3 _ rfl),hx.cell hb (h1 4 _ rfl),hx.cell hb (h1 5 _ rfl)⟩,Hd fun wx hx=>hL.but hx hk,Hd fun wx hx=>hF.but hx hk,Hd fun wx hx=>hV.but hx hk,Hd ht⟩
theorem Jg {x:Z8}{cut:Nat->Bool}(h:∀i,cut i=false):∀(l:List Ty) (j:Nat),Fl x cut j l=It x l
 | [],_=>rfl
 | p :: l,j=>by
  rw[Fl,Jg h l (j+1),h j];rfl
theorem Jj (vs:Bw) (x:Z8):Dp (vs.map (·.1)) x=Ff vs x:=by
 unfold Dp Ff;rw[List.any_map];rfl
theorem Ja3 {x:Z8}{k:Int}{s:Z8}{n:Int}{ps:List Ty}{fs:Bv}{vs:Bw}(hA:k≠16) (hB:k≠20) (hC:k≠21) (h:fs.length=0\/vs.length=0):Bx x (.mk k s n ps fs vs)=((!Dp (vs.map (·.1)) x && (It x ps || Mh x vs)) || Ox x fs):=by
 have e16:(k == 16)=false:=beq_eq_false_iff_ne.2 hA;have e20:(k == 20)=false:=beq_eq_false_iff_ne.2 hB;have e21:(k == 21)=false:=beq_eq_false_iff_ne.2 hC;rw[Fd,Jg (fun i=>by unfold Dz;rw[e20,e21];rfl),e16,Jj];rcases h with h|h
 ·obtain rfl:=List.eq_nil_of_length_eq_zero h;have e:Ox x ([]:Bv)=false:=rfl;rw[e]
  cases Ff vs x <;> cases Mh x vs <;> cases It x ps <;> rfl
 ·obtain rfl:=List.eq_nil_of_length_eq_zero h;have e:Mh x ([]:Bw)=false:=rfl;have e2:Ff ([]:Bw) x=false:=rfl;rw[e,e2]
  cases It x ps <;> cases Ox x fs <;> rfl
theorem Ja4 (x:Z8) {l:Bw}{i:Nat}(h:i<l.length):Mh x (l.take (i+1))=(Mh x (l.take i) || It x (l[i]'h).2):=by
 unfold Mh;rw[List.take_succ_eq_append_getElem h,List.any_append];simp
theorem Ja1 (x:Z8) {l:Bv}{i:Nat}(h:i<l.length):Ox x (l.take (i+1))=(Ox x (l.take i) || Bx x (l[i]'h).2.2):=by
 unfold Ox;rw[List.take_succ_eq_append_getElem h,List.any_append];simp
theorem I9:∀ {l:Bw}{v:Z8×List Ty},v∈l->Au v.2<=Br l
 | a :: l,v,h=>by
  have e:Br (a :: l)=Au a.2+Br l:=rfl;rw[e];rcases List.mem_cons.1 h with rfl|h
  ·omega
  ·have:=I9 h;omega
theorem Kk {k:Int}{s:Z8}{n:Int}{ps:List Ty}{fs:Bv}{vs:Bw}(h:Ai (.mk k s n ps fs vs)=true):∀v∈vs,∀b∈v.2,Ai b=true:=by
 rw[Aw,Bool.and_eq_true,Bool.and_eq_true,Bool.and_eq_true]at h;obtain⟨⟨⟨-,hB⟩,hA⟩,-⟩:=h;intro v hv b hb;obtain⟨i,hi,rfl⟩:=List.getElem_of_mem hv;have hk:k=13:=by
  by_cases e:k=13
  ·exact e
  ·have:=(Qp hB).2.1 (Nc e);omega
 have hC:Ef (Dh vs Ai)=true:=by
  subst hk;unfold Bq at hA;simpa using hA
 unfold Ef at hC;have h2:=List.all_eq_true.1 hC i (List.mem_range.2 (by unfold Dh;rw[List.length_map];exact hi));unfold okV Dh at h2;rw[List.getElem?_map,List.getElem?_eq_getElem hi]at h2;simp only[Option.map_some,Bool.and_eq_true,List.all_eq_true,id_eq]at h2;exact h2.1.2 _ (List.mem_map_of_mem hb)
theorem Ze {k:Int}{s:Z8}{n:Int}{ps:List Ty}{fs:Bv}{vs:Bw}(aD:k≠16) (aE:k≠20) (aF:k≠21) (hp:∀p∈ps,Nk p) (hf:∀f∈fs,Nk f.2.2) (hv:∀v∈vs,∀b∈v.2,Nk b):Nk (.mk k s n ps fs vs):=by
 intro K U g mb mf w bp op c S ha bC hK hS hU bA hc kJ bL;obtain⟨A,d,A2,d2,A3,d3,HX,HP,HF,HV,HT⟩:=Rc ha bC hK;obtain⟨l1,l2,l3,l4⟩:=Ew kJ;obtain⟨v1,v2,v3,v4⟩:=Gc bL;have hQ:=Kk kJ;have bE:=B0 k s n ps fs vs;have hZ:=Hd v1;have aA:=Hd v2;have aB:=Hd v3;have aC:=Hd v4;have bP:=Hd hQ;have HK:=Hd hK;have HS:=Hd hS;have HU:=Hd hU;have kZ:=Hd bA;have HC:=Hd hc;have aX:=Hd kJ;have kP:=Hd bE;have bV:=Hd hp;have bQ:=Hd hf;have bY:=Hd hv;have kV:Z9 (k≠13->vs.length=0):=Hd l2;have kW:Z9 (fs.length=0\/vs.length=0):=Hd (by by_cases h:k=14;exact .inr (l2 (by omega));exact .inl (l1 h));have e16:(k == 16)=false:=beq_eq_false_iff_ne.2 aD;have e20:(k == 20)=false:=beq_eq_false_iff_ne.2 aE;have e21:(k == 21)=false:=beq_eq_false_iff_ne.2 aF;have kR:=Hd aD;have kS:=Hd aE;have kT:=Hd aF;obtain⟨x0,-,-,-,-,-⟩:=HX.o _ (Ad.refl _ _);clear ha bC hK hS hU bA hc kJ bL l1 l2 l3 l4 v1 v2 v3 v4 hQ bE hp hf hv aD aE aF;go_enter Tryz.func153,Tryz.ntmps153
 go_upto_if 48 with fail
 clear x0
 go_cut [4] from 9 (fun nv wx=>∃AN cN,nv=.slice AN vs.length cN/\Cm wx (vs.map (·.1)) AN/\(∀b o,AN=some ⟨b,o,none⟩->w.heap.size<=b)/\Below w.heap.size w wx)
 case first=>
  by_cases kA:k=13
  ·have f13:(k == 13)=true:=by simp[kA]
   rw[f13];clear kA f13;obtain⟨i0,cF,cJ,cK,cL⟩:=Ec Ig;obtain⟨-,-,-,-,-,x5⟩:=HX.o _ (Ad.refl _ _);go_wp2_with fail;clear x5
   go_loopw [4,54] (fun nv v wr=>∃i:Nat,i<=vs.length/\v=.int .i64 i/\D5 w.heap.size wr nv ((vs.take i).map (·.1))/\Below w.heap.size w wr) (fun _ v _=>vs.length - (intOf v).toNat)
   case atStart=>exact⟨0,Nat.zero_le _,rfl,by exact⟨rfl,.inl ⟨rfl,rfl⟩⟩,Below.refl _ _⟩
   case round=>
    obtain⟨i,hi,rfl,hD,hb⟩:=hrel;have kF:=hZ.o;have hR:((vs.take i).map (·.1)).length=i:=(by rw[List.length_map,List.length_take];omega);obtain⟨A4,c4,rfl,-⟩:=hD.list (by rw[hR];omega);rw[hR];by_cases hB:i<vs.length
    ·have t1:decide ((i:Int)<(vs.length:Int))=true:=(by simp;omega);have hL:wrap64 ((i:Int)+1)=((i+1:Nat):Int):=Ax (by omega);have HM:=Hd (Bf hB);have hN:Z9 (i+1<=vs.length):=Hd hB;obtain⟨vb,vo,hA,aH,hH⟩:=(HV.o wr (Ad.of_below hb)).at (Nat.lt_of_le_of_lt (Nat.zero_le i) hB);subst hA;obtain⟨B',d',aT,hV,kE,-⟩:=hH i hB;have hF:(vs.take (i+1)).map (·.1)=(vs.take i).map (·.1)++[(vs[i]'hB).1]:=(by rw[List.take_succ_eq_append_getElem hB,List.map_append];rfl);generalize vs[i]'hB=vv at aT hV kE hF;obtain⟨nm,l⟩:=vv;dsimp only at aT hV kE hF;obtain⟨vq,aS⟩:∃x,x=wr.heap.size:=⟨_,rfl⟩;obtain⟨wb,kK⟩:∃x,x=wr.alloc (.cells #[.string nm,.slice B' l.length d'] 62):=⟨_,rfl⟩;have kC:Below wr.heap.size wr wb:=(by rw[kK];exact (Below.refl _ _).alloc (Nat.le_refl _) _);have bM:wb.heap[vq]?=some (.cells #[.string nm,.slice B' l.length d'] 62 (0,0)):=(by rw[kK,aS];exact heap_alloc_new wr _);obtain⟨wd,kL⟩:∃x,x=wb.alloc (.cells #[.string nm] 9):=⟨_,rfl⟩;have aK:Below wb.heap.size wb wd:=(by rw[kL];exact (Below.refl _ _).alloc (Nat.le_refl _) _);have bN:wd.heap[wb.heap.size]?=some (.cells #[.string nm] 9 (0,0)):=(by rw[kL];exact heap_alloc_new wb _);have kO:=Hd (hb.trans ((kC.trans (aK.mono kC.size)).mono hb.size));have hY:Z9 (wd.ownsRow w.heap.size 9 1 (.slice A4 i c4) i (((vs.take i).map (·.1)).map .string)):=Hd (by
      have h:=hD.later (kC.trans (aK.mono kC.size));unfold D5 at h;rw[hR]at h;exact h)
     have cC:=Hd bM;have cD:=Hd bN;have cA:=Hd kK;have cB:=Hd kL;have bZ:=Hd aS;have hI:=Hd hF;have bS:=Hd hR;clear hi hD hb kF hR hH aH kE hF aS kK kC bM kL aK bN;have i1:(0:Int)<=(i:Int):=(by omega);have i2:(i:Int)<(vs.length:Int):=(by omega);go_upto_region 13 with fail
     rw[<-cA.o,<-bZ.o];clear aT hV;have b0:wb.cell? ⟨vq,0,none⟩=some (.string nm):=(by rw[Ch cC.o];rfl);go_wp2_with (at_builtin;refine wpList_plain rfl fun Kx hK=>?_;rw[<-cB.o];go_loud (refine B5 _ _ 46 rfl w.heap.size 9 i0 (.string ⟨#[]⟩) 1 16 Tryz.underlying46 cF cJ cK cL rfl (by decide) _ _ _ rfl hY.o ⟨wb.heap.size,0,none⟩ 1 1 [.string nm] rfl rfl ?a0 ?a1 ?a2 ?a3 ?a4 ?_))
     case a0=>
      intro j u hj;have e2:((⟨wb.heap.size,0,none⟩:Addr).add j)=⟨wb.heap.size,j,none⟩:=by unfold Addr.add;by_cases h0:j=0 <;> simp[h0]
      (try rw[e2])
      rw[Ch cD.o];simpa using hj
     case a1=>
      first
      | rfl
      | (intro u hu;simp only[List.mem_cons,List.not_mem_nil,or_false]at hu;rw[hu];rfl)
     case a2=>have h1:=hN.o;have h2:=hZ.o;unfold maxLen;omega
     case a3=>have h1:=hN.o;have h2:=hZ.o;omega
     case a4=>exact kO.o.size
     intro v5 w5 hJ bH _ _;refine hK _ _ ?_;have bU:Z9 (D5 w.heap.size w5 v5 ((vs.take (i+1)).map (·.1))):=Hd (by
      unfold D5;have e:((vs.take (i+1)).map (·.1)).length=i+1:=(by rw[hI.o,List.length_append,bS.o];rfl);have h:=hJ;rw[e,hI.o,List.map_append];simp only[List.map_take,List.map_map,List.map_cons,List.map_nil]at h ⊢;exact h)
     have bO:Z9 (Below w.heap.size w w5):=Hd (kO.o.grown bH kO.o.size fun k hk=>(hY.o.lt k hk).1);clear hK Kx hJ bH b0;go_wp2_with fail;refine⟨⟨i+1,hN.o,by first|rfl|rw[hL],bU.o,bO.o⟩,?_⟩;first|exact HM.o|(rw[hL];exact HM.o)
    ·have t1:decide ((i:Int)<(vs.length:Int))=false:=(by simp;omega);obtain rfl:i=vs.length:=by omega
     rw[List.take_length]at hD;simp only[List.length_map]at hD;have bI:∃AN cN,(Value.slice A4 vs.length c4)=.slice AN vs.length cN/\Cm wr (vs.map (·.1)) AN/\(∀b o,AN=some ⟨b,o,none⟩->w.heap.size<=b)/\Below w.heap.size w wr:=by
      obtain⟨AN,cN,e1,e2⟩:=hD.list (by rw[List.length_map];omega);rw[List.length_map]at e1;refine⟨AN,cN,e1,e2,fun b o e=>?_,hb⟩;rw[e1,e]at hD;exact (World.ownsRow.lt hD b rfl).1
     have kQ:=Hd bI;clear hi hB hD hb kF hR bI;go_wp2_with fail
     go_meet
     exact kQ.o
  ·have f13:(k == 13)=false:=beq_eq_false_iff_ne.2 kA;have hT:=kV.o kA;have e0:vs=[]:=List.eq_nil_of_length_eq_zero hT;have kQ:Z9 (∃AN cN,(Value.slice none 0 0)=.slice AN vs.length cN/\Cm w (vs.map (·.1)) AN/\(∀b o,AN=some ⟨b,o,none⟩->w.heap.size<=b)/\Below w.heap.size w w):=Hd ⟨none,0,by rw[hT],⟨0,0,fun h=>by rw[List.length_map,hT]at h;omega,by rw[List.length_map,hT];omega,fun i hi=>by rw[List.length_map,hT]at hi;omega⟩,(fun b o e=>by cases e),Below.refl _ _⟩;clear kA hT e0;go_wp2_with fail
   go_meet
   exact kQ.o
 case rest=>
  obtain⟨AN,cN,rfl,bJ,bB,aJ⟩:=hcut;obtain⟨wv,cH⟩:∃x:World,x=wc:=⟨_,rfl⟩;subst cH;have bT:=Hd HS.o.lt;have kH:Z9 (Ad (fun x=>x=mb\/x=mf) w wv):=Hd (Ad.of_below aJ);have kG:Z9 (∀b o,AN=some ⟨b,o,none⟩->b≠mb/\b≠mf):=Hd fun b o e=>by have h1:=bB b o e;have h2:=bT.o;omega
  have aY:Z9 (∀wx,Ad (fun x=>x=mb\/x=mf) wv wx->Cm wx (vs.map (·.1)) AN):=Hd fun wx hx=>bJ.but hx fun b o e h=>h.elim (kG.o b o e).1 (kG.o b o e).2;have bX:=Hd (HS.o.later aJ);have kX:Z9 ((vs.map (·.1)).length=vs.length):=Hd (List.length_map ..);have aZ:Z9 (∀x∈vs.map (·.1),x∈U/\x.size<=maxLen):=Hd fun x hx=>by
   obtain⟨v,hv,rfl⟩:=List.mem_map.1 hx;refine⟨HU.o _ (Zu hv),?_⟩;obtain⟨i,hi,rfl⟩:=List.getElem_of_mem hv;obtain⟨vb,vo,-,-,hH⟩:=(HV.o w (Ad.refl _ _)).at (Nat.lt_of_le_of_lt (Nat.zero_le i) hi);obtain⟨_,_,_,_,kE,_⟩:=hH i hi;exact Nat.le_trans kE (by decide)
  obtain⟨BB,cE⟩:∃BB,BB=9000000000000000000 - Am (.mk k s n ps fs vs)*1000000000000002+1000000000000002:=⟨_,rfl⟩;have HB1:Z9 (∀x,c x+cI (vs.map (·.1)) x<=BB):=Hd fun x=>by
   have h1:=HC.o x;have h2:=Vu (vs.map (·.1)) x;have h3:=kX.o;have h4:=hZ.o;omega
  have aU:Z9 (BB<=9000000000000000000):=Hd (by have h1:=HC.o s;have h2:=Hk (.mk k s n ps fs vs);omega);have aV:Z9 (∀p:Ty,Am p+1<=Am (.mk k s n ps fs vs)->BB+Am p*1000000000000002<=9000000000000000000):=Hd fun p hp=>by
   have h1:=HC.o s;have h2:=Nat.mul_le_mul_right 1000000000000002 hp;rw[Nat.add_mul]at h2;omega
  have kU:Z9 (∀wx,Ad (fun x=>x=mb\/x=mf) w wx->∀x,K x->x<wx.heap.size/\x≠mb/\x≠mf):=Hd fun wx hx x h=>⟨Nat.lt_of_lt_of_le (HK.o x h).1 hx.size,(HK.o x h).2⟩;have hO:=Et (cN:=cN) (aY.o wv (Ad.refl _ _)) kG.o (HP.o wv kH.o) (kU.o wv kH.o) bX.o aZ.o kZ.o HB1.o aU.o (fun p hp=>⟨fun x hx=>HU.o x (Kd hp hx),⟨D1 aX.o p hp,aB.o p hp⟩,aV.o p (by have h1:=Hj hp;have h2:=kP.o;omega)⟩) bV.o;rw[kX.o]at hO;have KW:=Hd hO;obtain⟨-,-,-,x3,-,-⟩:=HX.o _ kH.o;clear bJ bB aJ cE hO;go_wp2_with fail;refine KW.o.mono ?_;rintro e w3 ⟨rfl,bK,aI⟩;have bW:=Hd bK;have kM:Z9 (Ad (fun x=>x=mb\/x=mf) wv w3):=Hd aI;have hX:Z9 (Ad (fun x=>x=mb\/x=mf) w w3):=Hd (kH.o.trans aI fun x h=>.inl h);clear bK aI KW x3;obtain⟨-,-,-,-,-,x5⟩:=HX.o _ hX.o;go_wp2_with fail;clear x5
  go_loopw [76] (fun v wr=>∃i:Nat,i<=vs.length/\v=.int .i64 i/\F3 U wr g mb mf c (fun x=>S x || (decide (c x=0) && (!Dp (vs.map (·.1)) x && (It x ps || Mh x (vs.take i)))))/\Ad (fun x=>x=mb\/x=mf) w3 wr) (fun v _=>vs.length - (intOf v).toNat)
  case atStart=>exact⟨0,Nat.zero_le _,rfl,bW.o.same (fun _=>rfl) (fun x=>by simp[Mh]),Ad.refl _ _⟩
  case round=>
   obtain⟨i,hi,rfl,hG,hE⟩:=hrel;have kF:=hZ.o;have hM:Z9 (Ad (fun x=>x=mb\/x=mf) w wr):=Hd (hX.o.trans hE fun x h=>.inl h);have aW:Z9 (Ad (fun x=>x=mb\/x=mf) wv wr):=Hd (kM.o.trans hE fun x h=>.inl h);have hW:=Hd hE;by_cases hB:i<vs.length
   ·have t1:decide ((i:Int)<(vs.length:Int))=true:=(by simp;omega);have hL:wrap64 ((i:Int)+1)=((i+1:Nat):Int):=Ax (by omega);have HM:=Hd (Bf hB);have hN:Z9 (i+1<=vs.length):=Hd hB;obtain⟨vb,vo,hA,aH,hH⟩:=(HV.o wr hM.o).at (Nat.lt_of_le_of_lt (Nat.zero_le i) hB);obtain⟨-,-,-,-,-,x5⟩:=HX.o _ hM.o;subst hA;obtain⟨B',d',-,hV,-,aO⟩:=hH i hB;have hC:=List.getElem_mem hB;have hF:=fun x=>Ja4 x hB;have hQ:=bP.o _ hC;have aP:=aA.o _ hC;have aR:=bY.o _ hC;have bF:Au (vs[i]'hB).2<=Br vs:=I9 hC;have hP:∀b∈(vs[i]'hB).2,∀x∈Fp b,x∈U:=fun b hb x hx=>HU.o x (Ro hC hb hx);generalize (vs[i]'hB).2=l at hV aO hF hQ aP aR bF hP;have hO:=Et (cN:=cN) (aY.o wr aW.o) kG.o aO (kU.o wr hM.o) hG aZ.o kZ.o HB1.o aU.o (fun p hp=>⟨hP p hp,⟨hQ p hp,aP p hp⟩,aV.o p (by have h1:=Hj hp;have h2:=kP.o;omega)⟩) aR;rw[kX.o]at hO;have KW:=Hd hO;have hI:=Hd hF;have i1:(0:Int)<=(i:Int):=(by omega);have i2:(i:Int)<(vs.length:Int):=(by omega);clear hi hG hE kF hH aH aO hC hF hQ aP aR bF hP hO;go_wp2_with fail;refine KW.o.mono ?_;rintro e w4 ⟨rfl,kD,kB⟩;have kY:Z9 (F3 U w4 g mb mf c (fun x=>S x || (decide (c x=0) && (!Dp (vs.map (·.1)) x && (It x ps || Mh x (vs.take (i+1))))))):=Hd (kD.same (fun _=>rfl) fun x=>by
     rw[hI.o];dsimp only;generalize decide (c x=0)=d1;generalize Dp (vs.map (·.1)) x=d2;generalize It x ps=d3;generalize Mh x (vs.take i)=d4;generalize It x l=d5
     cases S x <;> cases d1 <;> cases d2 <;> cases d3 <;> cases d4 <;> cases d5 <;> rfl)
    have kN:Z9 (Ad (fun x=>x=mb\/x=mf) w3 w4):=Hd (hW.o.trans kB fun x h=>.inl h);clear kD kB KW hI x5 hV;go_wp2_with fail;refine⟨⟨i+1,hN.o,by first|rfl|rw[hL],kY.o,kN.o⟩,?_⟩;first|exact HM.o|(rw[hL];exact HM.o)
   ·have t1:decide ((i:Int)<(vs.length:Int))=false:=(by simp;omega);obtain rfl:i=vs.length:=by omega
    rw[List.take_length]at hG;have kI:=Hd hG;obtain⟨-,-,-,-,x4,-⟩:=HX.o _ hM.o;have bR:Z9 (fs.length<=1000000000000000):=Hd (HF.o _ hM.o).shortF;clear hi hB hG hE kF;go_wp2_with fail;clear x4
    go_loopw [96] (fun v wy=>∃(i:Nat) (wo:World),i<=fs.length/\v=.int .i64 i/\wo=wy/\F3 U wy g mb mf c (fun x=>S x || (decide (c x=0) && ((!Dp (vs.map (·.1)) x && (It x ps || Mh x vs)) || Ox x (fs.take i))))/\Ad (fun x=>x=mb\/x=mf) w wy) (fun v _=>fs.length - (intOf v).toNat)
    case atStart=>exact⟨0,_,Nat.zero_le _,rfl,rfl,kI.o.same (fun _=>rfl) (fun x=>by simp[Ox]),hM.o⟩
    case round=>
     clear kI hM aW hW;obtain⟨i,wo,hi,rfl,cG,hG,hE⟩:=hrel;subst cG;have bG:=bR.o;have hW:=Hd hE;by_cases hB:i<fs.length
     ·have t1:decide ((i:Int)<(fs.length:Int))=true:=(by simp;omega);have hL:wrap64 ((i:Int)+1)=((i+1:Nat):Int):=Ax (by omega);have HM:=Hd (Bf hB);have hN:Z9 (i+1<=fs.length):=Hd hB;obtain⟨fb,fo,hA,aG,hH⟩:=(HF.o wo hE).at (Nat.lt_of_le_of_lt (Nat.zero_le i) hB);obtain⟨-,-,-,-,x4,-⟩:=HX.o _ hE;subst hA;obtain⟨-,-,-,aN⟩:=hH i hB;have hC:=List.getElem_mem hB;have hF:=fun x=>Ja1 x hB;have aL:=bQ.o _ hC;have hP:∀x∈Fp (fs[i]'hB).2.2,x∈U:=fun x hx=>HU.o x (Rp hC hx);have aM:=Je (t:=.mk k s n ps fs vs) aX.o _ hC;have aQ:=aC.o _ hC;have bD:=I8 hC;generalize (fs[i]'hB).2.2=t at aN hF aL hP aM aQ bD;have KW:=Hd (aL K U g mb mf wo fb (fo+i*8+2) c _ aN ⟨(HK.o fb aG).2.1,(HK.o fb aG).2.2⟩ (kU.o wo hE) hG hP kZ.o (fun x=>by
       have h1:=HC.o x;have h2:=Nat.mul_le_mul_right 1000000000000002 (show Am t<=Am (.mk k s n ps fs vs) by rw[kP.o];omega);exact Nat.le_trans (Nat.add_le_add_left h2 _) h1) aM aQ)
      have hI:=Hd hF;have i1:(0:Int)<=(i:Int):=(by omega);have i2:(i:Int)<(fs.length:Int):=(by omega);clear hi hG hE bG hH aG aN hC hF aL hP aM aQ bD;go_wp2_with fail;refine KW.o.mono ?_;rintro e w4 ⟨rfl,kD,kB⟩;have kY:Z9 (F3 U w4 g mb mf c (fun x=>S x || (decide (c x=0) && ((!Dp (vs.map (·.1)) x && (It x ps || Mh x vs)) || Ox x (fs.take (i+1)))))):=Hd (kD.same (fun _=>rfl) fun x=>by
       rw[hI.o];dsimp only;generalize decide (c x=0)=d1;generalize (!Dp (vs.map (·.1)) x && (It x ps || Mh x vs))=d2;generalize Ox x (fs.take i)=d4;generalize Bx x t=d5
       cases S x <;> cases d1 <;> cases d2 <;> cases d4 <;> cases d5 <;> rfl)
      have kN:Z9 (Ad (fun x=>x=mb\/x=mf) w w4):=Hd (hW.o.trans kB fun x h=>.inl h);clear kD kB KW hI x4;go_wp2_with fail;refine⟨⟨i+1,w4,hN.o,by first|rfl|rw[hL],rfl,kY.o,kN.o⟩,?_⟩;first|exact HM.o|(rw[hL];exact HM.o)
     ·have t1:decide ((i:Int)<(fs.length:Int))=false:=(by simp;omega);obtain rfl:i=fs.length:=by omega
      rw[List.take_length]at hG;have kI:Z9 (F3 U wo g mb mf c (fun x=>S x || (decide (c x=0) && Bx x (.mk k s n ps fs vs)))):=Hd (hG.same (fun _=>rfl) fun x=>by rw[Ja3 kR.o kS.o kT.o kW.o]);clear hi hB hG hE bG;go_wp2_with fail
      go_end0
      exact⟨rfl,kI.o,hW.o⟩
theorem Sg (t:Z8) (n:Int) (ps:List Ty) (fs:Bv) (vs:Bw) (hp:∀p∈ps,Aj p) (hf:∀f∈fs,Aj f.2.2) (hv:∀v∈vs,∀b∈v.2,Aj b) (hA:fs.length=0) (hB:vs.length=0) (hC:ps.all Ai=true):Aj (.mk 15 t n ps fs vs):=by
 by_cases hD:t.toList=[]
 ·by_cases hE:n=0
  ·by_cases hF:2<=ps.length
   ·exact Jad t n ps fs vs hp hf hv hA hB hC hD hE hF
   ·exact Jab t n ps fs vs hp hf hv hA hB hC hD hE hF
  ·exact Jaa t n ps fs vs hp hf hv hA hB hC hD hE
 ·obtain⟨a0,l0,h⟩:=List.exists_cons_of_ne_nil hD;exact Jac t n ps fs vs hp hf hv hA hB hC a0 l0 h
theorem Ud (k:Int) (hk:k=1\/k=2\/k=3\/k=4\/k=5\/k=6\/k=7\/k=8) (t:Z8) (n:Int) (ps:List Ty) (fs:Bv) (vs:Bw) (hp:∀p∈ps,Aj p) (hf:∀f∈fs,Aj f.2.2) (hv:∀v∈vs,∀b∈v.2,Aj b) (hA:fs.length=0) (hB:vs.length=0) (hC:ps.all Ai=true):Aj (.mk k t n ps fs vs):=by
 by_cases hD:t.toList=[]
 ·by_cases hE:n=0
  ·by_cases hF:ps.length=0
   ·exact Jdx k hk t n ps fs vs hp hf hv hA hB hC hD hE hF
   ·exact Jdv k hk t n ps fs vs hp hf hv hA hB hC hD hE hF
  ·exact Jdu k hk t n ps fs vs hp hf hv hA hB hC hD hE
 ·obtain⟨a0,l0,h⟩:=List.exists_cons_of_ne_nil hD;exact Jdw k hk t n ps fs vs hp hf hv hA hB hC a0 l0 h
theorem Uc (t:Z8) (n:Int) (ps:List Ty) (fs:Bv) (vs:Bw) (hp:∀p∈ps,Aj p) (hf:∀f∈fs,Aj f.2.2) (hv:∀v∈vs,∀b∈v.2,Aj b) (hA:fs.length=0) (hB:vs.length=0) (hC:ps.all Ai=true):Aj (.mk 9 t n ps fs vs):=by
 by_cases hD:t.toList=[]
 ·by_cases hE:0<=n
  ·by_cases hF:ps.length=0
   ·exact Jdt t n ps fs vs hp hf hv hA hB hC hD hE hF
   ·exact Jdr t n ps fs vs hp hf hv hA hB hC hD hE hF
  ·exact Jdq t n ps fs vs hp hf hv hA hB hC hD hE
 ·obtain⟨a0,l0,h⟩:=List.exists_cons_of_ne_nil hD;exact Jds t n ps fs vs hp hf hv hA hB hC a0 l0 h
theorem Sb (t:Z8) (n:Int) (ps:List Ty) (fs:Bv) (vs:Bw) (hp:∀p∈ps,Aj p) (hf:∀f∈fs,Aj f.2.2) (hv:∀v∈vs,∀b∈v.2,Aj b) (hB:fs.length=0) (hC:vs.length=0) (hD:ps.all Ai=true):Aj (.mk 10 t n ps fs vs):=by
 by_cases hA:n=0
 ·by_cases hE:ps.length=0
  ·exact κ t n ps fs vs hp hf hv hB hC hD hA hE
  ·exact ι t n ps fs vs hp hf hv hB hC hD hA hE
 ·exact θ t n ps fs vs hp hf hv hB hC hD hA
theorem Sc (t:Z8) (n:Int) (ps:List Ty) (fs:Bv) (vs:Bw) (hp:∀p∈ps,Aj p) (hf:∀f∈fs,Aj f.2.2) (hv:∀v∈vs,∀b∈v.2,Aj b) (hA:fs.length=0) (hB:vs.length=0) (hC:ps.all Ai=true):Aj (.mk 11 t n ps fs vs):=by
 by_cases hD:t.toList=[]
 ·by_cases hE:n=0
  ·by_cases hF:ps.length=1
   ·exact V7 11 (by omega) t n ps fs vs hp hf hv hA hB hC hD hE hF
   ·exact V5 11 (by omega) t n ps fs vs hp hf hv hA hB hC hD hE hF
  ·exact V4 11 (by omega) t n ps fs vs hp hf hv hA hB hC hD hE
 ·obtain⟨a0,l0,h⟩:=List.exists_cons_of_ne_nil hD;exact V6 11 (by omega) t n ps fs vs hp hf hv hA hB hC a0 l0 h
theorem Sd (t:Z8) (n:Int) (ps:List Ty) (fs:Bv) (vs:Bw) (hp:∀p∈ps,Aj p) (hf:∀f∈fs,Aj f.2.2) (hv:∀v∈vs,∀b∈v.2,Aj b) (hA:fs.length=0) (hB:vs.length=0) (hC:ps.all Ai=true):Aj (.mk 12 t n ps fs vs):=by
 by_cases hD:t.toList=[]
 ·by_cases hE:n=0
  ·exact σ t n ps fs vs hp hf hv hA hB hC hD hE
  ·exact ν t n ps fs vs hp hf hv hA hB hC hD hE
 ·obtain⟨a0,l0,h⟩:=List.exists_cons_of_ne_nil hD;exact ξ t n ps fs vs hp hf hv hA hB hC a0 l0 h
theorem Se (t:Z8) (n:Int) (ps:List Ty) (fs:Bv) (vs:Bw) (hp:∀p∈ps,Aj p) (hf:∀f∈fs,Aj f.2.2) (hv:∀v∈vs,∀b∈v.2,Aj b) (hA:fs.length=0) (hB:ps.all Ai=true):Aj (.mk 13 t n ps fs vs):=by
 by_cases hC:t.toList=[]
 ·by_cases hD:n=0
  ·by_cases hE:1<=ps.length
   ·cases hq:Ef (Dh vs Ai) with
    | false=>exact Xy t n ps fs vs hp hf hv hA hB hC hD hE hq
    | true=>exact Xz t n ps fs vs hp hf hv hA hB hC hD hE hq
   ·exact υ t n ps fs vs hp hf hv hA hB hC hD hE
  ·exact τ t n ps fs vs hp hf hv hA hB hC hD
 ·obtain⟨a0,l0,h⟩:=List.exists_cons_of_ne_nil hC;exact φ t n ps fs vs hp hf hv hA hB a0 l0 h
theorem Sf (t:Z8) (n:Int) (ps:List Ty) (fs:Bv) (vs:Bw) (hp:∀p∈ps,Aj p) (hf:∀f∈fs,Aj f.2.2) (hv:∀v∈vs,∀b∈v.2,Aj b) (hA:vs.length=0) (hB:ps.all Ai=true):Aj (.mk 14 t n ps fs vs):=by
 by_cases hC:t.toList=[]
 ·by_cases hD:n=0
  ·by_cases hE:ps.length=0
   ·cases hq:Cd (Bn fs Ai) with
    | false=>exact X0 t n ps fs vs hp hf hv hA hB hC hD hE hq
    | true=>exact X1 t n ps fs vs hp hf hv hA hB hC hD hE hq
   ·exact ψ t n ps fs vs hp hf hv hA hB hC hD hE
  ·exact χ t n ps fs vs hp hf hv hA hB hC hD
 ·obtain⟨a0,l0,h⟩:=List.exists_cons_of_ne_nil hC;exact ω t n ps fs vs hp hf hv hA hB a0 l0 h
theorem Sh (t:Z8) (n:Int) (ps:List Ty) (fs:Bv) (vs:Bw) (hp:∀p∈ps,Aj p) (hf:∀f∈fs,Aj f.2.2) (hv:∀v∈vs,∀b∈v.2,Aj b) (hA:fs.length=0) (hC:vs.length=0) (hD:ps.all Ai=true):Aj (.mk 16 t n ps fs vs):=by
 cases hB:Ca t with
 | false=>exact V0 16 (by omega) t n ps fs vs hp hf hv hA hC hD hB
 | true=>
  by_cases hE:n=0
  ·by_cases hF:ps.length=0
   ·exact V3 16 (by omega) t n ps fs vs hp hf hv hA hC hD hB hE hF
   ·exact V2 16 (by omega) t n ps fs vs hp hf hv hA hC hD hB hE hF
  ·exact V1 16 (by omega) t n ps fs vs hp hf hv hA hC hD hB hE
theorem Si (t:Z8) (n:Int) (ps:List Ty) (fs:Bv) (vs:Bw) (hp:∀p∈ps,Aj p) (hf:∀f∈fs,Aj f.2.2) (hv:∀v∈vs,∀b∈v.2,Aj b) (hA:fs.length=0) (hC:vs.length=0) (hD:ps.all Ai=true):Aj (.mk 17 t n ps fs vs):=by
 cases hB:Ca t with
 | false=>exact Jae t n ps fs vs hp hf hv hA hC hD hB
 | true=>
  by_cases hE:n=0
  ·exact Jag t n ps fs vs hp hf hv hA hC hD hB hE
  ·exact Jaf t n ps fs vs hp hf hv hA hC hD hB hE
theorem Sj (t:Z8) (n:Int) (ps:List Ty) (fs:Bv) (vs:Bw) (hp:∀p∈ps,Aj p) (hf:∀f∈fs,Aj f.2.2) (hv:∀v∈vs,∀b∈v.2,Aj b) (hA:fs.length=0) (hB:vs.length=0) (hC:ps.all Ai=true):Aj (.mk 18 t n ps fs vs):=by
 by_cases hD:t.toList=[]
 ·by_cases hE:n=0
  ·by_cases hF:ps.length=1
   ·exact V7 18 (by omega) t n ps fs vs hp hf hv hA hB hC hD hE hF
   ·exact V5 18 (by omega) t n ps fs vs hp hf hv hA hB hC hD hE hF
  ·exact V4 18 (by omega) t n ps fs vs hp hf hv hA hB hC hD hE
 ·obtain⟨a0,l0,h⟩:=List.exists_cons_of_ne_nil hD;exact V6 18 (by omega) t n ps fs vs hp hf hv hA hB hC a0 l0 h
theorem Sk (t:Z8) (n:Int) (ps:List Ty) (fs:Bv) (vs:Bw) (hp:∀p∈ps,Aj p) (hf:∀f∈fs,Aj f.2.2) (hv:∀v∈vs,∀b∈v.2,Aj b) (hA:fs.length=0) (hB:vs.length=0) (hC:ps.all Ai=true):Aj (.mk 19 t n ps fs vs):=by
 by_cases hD:t.toList=[]
 ·by_cases hE:n=0
  ·by_cases hF:ps.length=2
   ·exact Jak t n ps fs vs hp hf hv hA hB hC hD hE hF
   ·exact Jai t n ps fs vs hp hf hv hA hB hC hD hE hF
  ·exact Jah t n ps fs vs hp hf hv hA hB hC hD hE
 ·obtain⟨a0,l0,h⟩:=List.exists_cons_of_ne_nil hD;exact Jaj t n ps fs vs hp hf hv hA hB hC a0 l0 h
theorem Sl (t:Z8) (n:Int) (ps:List Ty) (fs:Bv) (vs:Bw) (hp:∀p∈ps,Aj p) (hf:∀f∈fs,Aj f.2.2) (hv:∀v∈vs,∀b∈v.2,Aj b) (hA:fs.length=0) (hC:vs.length=0) (hD:ps.all Ai=true):Aj (.mk 20 t n ps fs vs):=by
 cases hB:Ca t with
 | false=>exact Jal t n ps fs vs hp hf hv hA hC hD hB
 | true=>
  by_cases hE:0<=n
  ·by_cases hF:n<=3
   ·by_cases hG:ps.length=2
    ·exact Jap t n ps fs vs hp hf hv hA hC hD hB hE hF hG
    ·exact Jao t n ps fs vs hp hf hv hA hC hD hB hE hF hG
   ·exact Jan t n ps fs vs hp hf hv hA hC hD hB hE hF
  ·exact Jam t n ps fs vs hp hf hv hA hC hD hB hE
theorem Sm (t:Z8) (n:Int) (ps:List Ty) (fs:Bv) (vs:Bw) (hp:∀p∈ps,Aj p) (hf:∀f∈fs,Aj f.2.2) (hv:∀v∈vs,∀b∈v.2,Aj b) (hA:fs.length=0) (hC:vs.length=0) (hD:ps.all Ai=true):Aj (.mk 21 t n ps fs vs):=by
 by_cases hB:ps.length=4
 ·by_cases hE:n=0
  ·by_cases hH:t.toList=[]
   ·exact Jaq t n ps fs vs hp hf hv hA hC hD hB hE hH
   ·obtain⟨a0,l0,h⟩:=List.exists_cons_of_ne_nil hH;exact Jar t n ps fs vs hp hf hv hA hC hD hB hE a0 l0 h
  ·by_cases hF:n=1
   ·cases hG:Ca t with
    | false=>exact X2 t n ps fs vs hp hf hv hA hC hD hB hE hF hG
    | true=>exact X3 t n ps fs vs hp hf hv hA hC hD hB hE hF hG
   ·exact Jas t n ps fs vs hp hf hv hA hC hD hB hE hF
 ·exact Jat t n ps fs vs hp hf hv hA hC hD hB
theorem Sn (t:Z8) (n:Int) (ps:List Ty) (fs:Bv) (vs:Bw) (hp:∀p∈ps,Aj p) (hf:∀f∈fs,Aj f.2.2) (hv:∀v∈vs,∀b∈v.2,Aj b) (hA:fs.length=0) (hC:vs.length=0) (hD:ps.all Ai=true):Aj (.mk 22 t n ps fs vs):=by
 cases hB:Ca t with
 | false=>exact V0 22 (by omega) t n ps fs vs hp hf hv hA hC hD hB
 | true=>
  by_cases hE:n=0
  ·by_cases hF:ps.length=0
   ·exact V3 22 (by omega) t n ps fs vs hp hf hv hA hC hD hB hE hF
   ·exact V2 22 (by omega) t n ps fs vs hp hf hv hA hC hD hB hE hF
  ·exact V1 22 (by omega) t n ps fs vs hp hf hv hA hC hD hB hE
theorem So (t:Z8) (n:Int) (ps:List Ty) (fs:Bv) (vs:Bw) (hp:∀p∈ps,Aj p) (hf:∀f∈fs,Aj f.2.2) (hv:∀v∈vs,∀b∈v.2,Aj b) (hA:fs.length=0) (hB:vs.length=0) (hC:ps.all Ai=true):Aj (.mk 23 t n ps fs vs):=by
 by_cases hD:t.toList=[]
 ·by_cases hE:n=0
  ·by_cases hF:2<=ps.length
   ·cases hq:Ju ps with
    | false=>exact X4 t n ps fs vs hp hf hv hA hB hC hD hE hF hq
    | true=>exact X5 t n ps fs vs hp hf hv hA hB hC hD hE hF hq
   ·exact Jav t n ps fs vs hp hf hv hA hB hC hD hE hF
  ·exact Jau t n ps fs vs hp hf hv hA hB hC hD hE
 ·obtain⟨a0,l0,h⟩:=List.exists_cons_of_ne_nil hD;exact Jaw t n ps fs vs hp hf hv hA hB hC a0 l0 h
theorem Ug (k:Int) (t:Z8) (n:Int) (ps:List Ty) (fs:Bv) (vs:Bw) (hp:∀p∈ps,Aj p) (hf:∀f∈fs,Aj f.2.2) (hv:∀v∈vs,∀b∈v.2,Aj b):Aj (.mk k t n ps fs vs):=by
 by_cases hD:k=14
 ·subst hD;by_cases hC:vs.length=0
  ·cases hA:ps.all Ai with
   | false=>exact Yb t n ps fs vs hp hf hv hC hA
   | true=>exact Sf t n ps fs vs hp hf hv hC hA
  ·exact X7 t n ps fs vs hp hf hv (by omega)
 by_cases hB:fs.length=0
 ·by_cases hE:k=13
  ·subst hE
   cases hA:ps.all Ai with
   | false=>exact Ya t n ps fs vs hp hf hv hB hA
   | true=>exact Se t n ps fs vs hp hf hv hB hA
  by_cases hC:vs.length=0
  ·cases hA:ps.all Ai with
   | false=>exact Jd1 k t n ps fs vs hp hf hv hD hB hE hC hA
   | true=>
    by_cases hL:k=1\/k=2\/k=3\/k=4\/k=5\/k=6\/k=7\/k=8
    ·exact Ud k hL t n ps fs vs hp hf hv hB hC hA
    by_cases h9:k=9
    ·subst h9;exact Uc t n ps fs vs hp hf hv hB hC hA
    by_cases hF:k=10
    ·subst hF;exact Sb t n ps fs vs hp hf hv hB hC hA
    by_cases hG:k=11
    ·subst hG;exact Sc t n ps fs vs hp hf hv hB hC hA
    by_cases hH:k=12
    ·subst hH;exact Sd t n ps fs vs hp hf hv hB hC hA
    by_cases hI:k=15
    ·subst hI;exact Sg t n ps fs vs hp hf hv hB hC hA
    by_cases hJ:k=16
    ·subst hJ;exact Sh t n ps fs vs hp hf hv hB hC hA
    by_cases hK:k=17
    ·subst hK;exact Si t n ps fs vs hp hf hv hB hC hA
    by_cases hM:k=18
    ·subst hM;exact Sj t n ps fs vs hp hf hv hB hC hA
    by_cases hN:k=19
    ·subst hN;exact Sk t n ps fs vs hp hf hv hB hC hA
    by_cases hO:k=20
    ·subst hO;exact Sl t n ps fs vs hp hf hv hB hC hA
    by_cases hP:k=21
    ·subst hP;exact Sm t n ps fs vs hp hf hv hB hC hA
    by_cases hQ:k=22
    ·subst hQ;exact Sn t n ps fs vs hp hf hv hB hC hA
    by_cases hR:k=23
    ·subst hR;exact So t n ps fs vs hp hf hv hB hC hA
    exact Jdz k t n ps fs vs hp hf hv (by omega) (by omega) (by omega) (by omega) (by omega) (by omega) (by omega) (by omega) h9 hF hG hH hE hD hI hJ hK hM hN hO hP hQ hR hB hC hA
  ·exact Jd0 k t n ps fs vs hp hf hv hD hB hE (by omega)
 ·exact Jdy k t n ps fs vs hp hf hv hD (by omega)
theorem Jay (t:Ty):Aj t:=Ty.ind (C:=Aj) (fun k t n ps fs vs hp hf hv=>Ug k t n ps fs vs hp hf hv) t
open Go.RowKit Go.Sort
theorem Un {K:Nat->Prop}{w:World}{t:Ty}{cs:List Value}(hr:An K w t cs) (hf:Ai t=true) (hn:(Bi t).length<=1000000000) :
  Calls Tryz.prog 93 #[.agg cs.toArray] w fun e w'=>∃A c,e=.returned (.slice A (I3 (Bi t)).length c)/\Cm w' (I3 (Bi t)) A/\(∀b o,A=some ⟨b,o,none⟩->w.heap.size<=b)/\Below w.heap.size w w':=by
 have kinf:=Jbd t;obtain⟨k,s,n,ps,fs,vs⟩:=t;obtain⟨A,c,B,d,C,e0,rfl,-⟩:=hr.inv;simp only[Ao]at hr ⊢;obtain⟨w0,hC⟩:∃x,x=w.alloc (.cells #[.int .i64 k,.string s,.int .i64 n,.slice A ps.length c,.slice B fs.length d,.slice C vs.length e0] 26):=⟨_,rfl⟩;obtain⟨w1,hD⟩:∃x,x=w0.alloc (.cells #[.slice none 0 0] 46):=⟨_,rfl⟩;have hI:Dm K w0 (.mk k s n ps fs vs) w.heap.size 0:=by rw[hC];exact Dm.box 26 hr
 have hJ:Below w.heap.size w w0:=by rw[hC];exact (Below.refl _ _).alloc (Nat.le_refl _) _
 have hK:Below w0.heap.size w0 w1:=by rw[hD];exact (Below.refl _ _).alloc (Nat.le_refl _) _
 have hL:Vm w0 w1 w0.heap.size []:=⟨.slice none 0 0,by rw[hD];exact heap_alloc_new w0 _,⟨rfl,.inl ⟨rfl,rfl⟩⟩,hK,Nat.le_refl _⟩;have KI:=Hd (kinf K w0 w1 w.heap.size 0 w0.heap.size [] hI hf hL (by simp only[List.length_nil];omega));have hA:=Hd hJ;have hQ:=Hd hC;have HW1:=Hd hD;clear kinf hr hI hJ hK hL hC hD hf;rw[List.nil_append]at KI;generalize Bi (.mk k s n ps fs vs)=l at KI hn ⊢;go_enter Tryz.func93,Tryz.ntmps93;go_upto_region 1 with fail
 rw[<-hQ.o];go_upto_region 2 with fail
 rw[<-HW1.o];go_wp2_with fail;refine KI.o.mono ?_;rintro e w2 ⟨rfl,v,hv,ho,hb,hg⟩;have hE:=Hd (hA.o.trans (hb.mono hA.o.size));have hT:=hA.o.size;rcases ho.of with ⟨rfl,rfl⟩|⟨g,c',rfl,hG,hs⟩
 ·have z0:w2.cell? ⟨w0.heap.size,0,none⟩=some (.slice none 0 0):=Ch hv 0;clear hv ho hb hg;go_wp2_with fail;refine (Jgf _ _ _).mono ?_;rintro e w' ⟨rfl,hw⟩;obtain rfl:=hw.symm;go_wp2_with fail;refine (Xi _ _ _).mono ?_;rintro e w' ⟨rfl,hw⟩;obtain rfl:=hw.symm;go_wp2_with fail;go_ret
  exact⟨none,0,by rw[P5];rfl,by rw[P5];exact⟨0,0,fun h=>absurd h (by simp),by simp,fun i h=>absurd h (by simp)⟩,(fun b o e=>by cases e),hE.o⟩
 ·have z0:w2.cell? ⟨w0.heap.size,0,none⟩=some (.slice (some ⟨g,0,none⟩) l.length c'):=Ch hv 0;have KS:=Hd (Jco hs hG hn);have hP:Z9 (w0.heap.size≠g):=Hd fun e=>by
   obtain⟨cur,h1,_⟩:=hs.blk;rw[<-e,hv]at h1;injection h1 with h1
   injection h1 with _ h1
   exact absurd h1 (by decide)
  have hO:Z9 (w0.heap.size<w2.heap.size):=Hd (Array.getElem?_eq_some_iff.1 hv).1;have hF:=Hd hG;clear hv ho hb hg hs hG;go_wp2_with fail;refine KS.o.mono ?_;rintro e w3 ⟨rfl,hM,hH⟩;have hN:=Hd (hE.o.grown hH hE.o.size fun k hk=>by injection hk with hk;have:=hF.o;have:=hA.o.size;omega);have KC:=Hd (O2 hM hF.o (by rw[Lx];exact hn));have z1:w3.cell? ⟨w0.heap.size,0,none⟩=some (.slice (some ⟨g,0,none⟩) l.length c'):=(World.cell?_of_block (a:=⟨w0.heap.size,0,none⟩) (hH.block w0.heap.size hO.o fun e=>hP.o (by injection e))).trans z0;rw[Y2,Lx]at KC;clear hM hH KS z0;go_wp2_with fail;refine KC.o.mono ?_;rintro e w4 ⟨rfl,hS,hR⟩;have hB:Z9 (Cm w4 (I3 l) (some ⟨g,0,none⟩)/\Below w.heap.size w w4):=Hd ⟨hS.list (show (I3 l).length<=_ from by have:=Lv l;omega),hN.o.trans (hR.mono hA.o.size)⟩;go_wp2_with fail;go_ret
  exact⟨some ⟨g,0,none⟩,c',by unfold I3;rw[List.length_map];rfl,hB.o.1,(fun b o e=>by injection e with e;injection e with e;have h1:=hF.o;have h2:=hA.o.size;omega),hB.o.2⟩
theorem Qv:Nf:=fun K w t cs hr hf hn=>(Un hr hf hn).mono fun e w' h=>by
 obtain⟨A,c,h1,h2,h3,h4⟩:=h;exact⟨I3 (Bi t),A,c,h1,h2,fun x=>Yn,Lv _,h3,h4⟩
theorem Nz {K:Nat->Prop}{w:World}{t:Ty}{cs:List Value}(hr:An K w t cs) :
  Calls Tryz.prog 15 #[.agg cs.toArray] w fun e w'=>e=.returned (.bool (Co t))/\Below w.heap.size w w':=by
 have hN:=Wd t;have hF:=Jay t;have hD:Co t=(decide (Am t<=4096) && Ai t):=rfl;generalize hI:Ai t=r at hD;obtain⟨k,s,n,ps,fs,vs⟩:=t;have KN:=Hd fun wx (hx:Below w.heap.size w wx)=>hN K wx cs (hr.later hx);have KF:=Hd fun wx (hx:Below w.heap.size w wx) h=>hF K wx cs (hr.later hx) h;obtain⟨A,c,A',c',A'',c'',rfl,-⟩:=hr.inv;simp only[Ao]at KN KF ⊢;rw[hI]at KF;obtain⟨w1,hA⟩:∃x,x=w.alloc (.cells #[.int .i64 k,.string s,.int .i64 n,.slice A ps.length c,.slice A' fs.length c',.slice A'' vs.length c''] 26):=⟨_,rfl⟩;have hG:Below w.heap.size w w1:=by rw[hA];exact (Below.refl _ _).alloc (Nat.le_refl _) _
 have hJ:w1.heap.size=w.heap.size+1:=by rw[hA];simp
 have hK:w1.heap[w.heap.size]?=some (.cells #[.int .i64 k,.string s,.int .i64 n,.slice A ps.length c,.slice A' fs.length c',.slice A'' vs.length c''] 26 (0,0)):=by rw[hA];exact heap_alloc_new w _
 have HB1:=Hd hG;have HS1:=Hd hJ;have HX0:=Hd hK;have HW1:=Hd hA;have hC:=Hd hD;generalize Am (.mk k s n ps fs vs)=q at KN KF hC;clear hr hN hF hG hJ hK hA hD hI;go_enter Tryz.func15,Tryz.ntmps15;go_upto_region 1 with fail
 rw[<-HW1.o];obtain⟨x0,x1,x2,x3,x4,x5⟩:=Dw HX0.o;go_wp2_with fail;refine (KN.o _ HB1.o).mono ?_;rintro e w2 ⟨rfl,hg⟩;have hB:=Hd (HB1.o.trans (hg.below.mono HB1.o.size));have h2:=Ay hg.below (by have:=HS1.o;omega) HX0.o;clear x0 x1 x2 x3 x4 x5 hg KN;obtain⟨x0,x1,x2,x3,x4,x5⟩:=Dw h2;clear h2;by_cases hq:q<=4096
 ·have t1:decide ((Cs q:Int)<=4096)=true:=decide_eq_true (by unfold Cs;omega);have t2:decide (Cs q<=4096)=true:=decide_eq_true (by unfold Cs;omega);have hE:=Hd (KF.o _ hB.o (by omega));have HV:Z9 (Co (.mk k s n ps fs vs)=r):=Hd (by rw[hC.o,decide_eq_true hq];rfl);clear hq KF;go_wp2_with fail;refine hE.o.mono ?_;rintro e w3 ⟨rfl,hH⟩;have hL:=Hd (hB.o.trans (hH.mono hB.o.size));clear hH hE;go_wp2_with fail;go_ret
  exact⟨by rw[HV.o];rfl,hL.o⟩
 ·have t1:decide ((Cs q:Int)<=4096)=false:=decide_eq_false (by unfold Cs;omega);have t2:decide (Cs q<=4096)=false:=decide_eq_false (by unfold Cs;omega);have HV:Z9 (Co (.mk k s n ps fs vs)=false):=Hd (by rw[hC.o,decide_eq_false hq];rfl);clear hq KF;go_wp2_with fail;go_ret
  exact⟨by rw[HV.o];rfl,hB.o⟩
