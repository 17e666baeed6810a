import Derived.Test.YtlpfpehegddcfaaGreatDoorMw20
namespace Go.Proofs.YtlpfpehegddcfaaGreatDoor
set_option maxRecDepth 100000
set_option maxHeartbeats 64000000
open Go.RowKit
theorem Jn (K:Nat->Prop) (w:World) (s:Z8) (hs:s.size<=1000000000000000):An K w (Cf s) [.int .i64 10,.string s,.int .i64 0,.slice none 0 0,.slice none 0 0,.slice none 0 0]:=
 An.of hs ⟨⟨0,0,⟨by simp,by decide,fun _=>rfl,fun h=>absurd h (by simp)⟩,fun i h=>absurd h (by simp)⟩⟩ ⟨⟨0,0,⟨by simp,by decide,fun _=>rfl,fun h=>absurd h (by simp)⟩,fun i h=>absurd h (by simp)⟩⟩ ⟨⟨0,0,⟨by simp,by decide,fun _=>rfl,fun h=>absurd h (by simp)⟩,fun i h=>absurd h (by simp)⟩⟩
theorem Jv {K:Nat->Prop}{w0 w:World}{v:Value}{ts:List Ty}{t:Ty}{cs:List Value}{gg:Nat}{o:Oper}{a:Act}{Kc:Act->World->Prop}{Q:Exit->Act->World->Prop}(sl x:Operand)
  (ho:o.op=.call { callee:=.builtin .append,args:=#[sl,x],argTypes:=#[22,22] }) (hs:a.eval sl=v) (hx:a.eval x=.slice (some ⟨gg,0,none⟩) 1 1)
  (hO:Cl K w0 w v ts) (ht:An K w0 t cs) (hc:∀j u,cs[j]?=some u->w.cell? ⟨gg,j,none⟩=some u) (hb:Below w0.heap.size w0 w) (hC:ts.length+1<=1099511627776)
  (h:∀v' w',Cl K w0 w' v' (ts++[t])->Below w0.heap.size w0 w'->w.grownBy w' v.ownBlock->Kc (a.put o.dst v') w') :
  Oper.wp Tryz.prog o a w Kc Q:=by
 obtain⟨vs,hA,hB⟩:=hO;obtain⟨i0,hD,hE,hF,hG⟩:=Ec Hf;refine B5 sl x 22 ho w0.heap.size 26 i0 _ 6 104 K1 hD hE hF hG (by decide) (by decide) v ts.length vs hs hA ⟨gg,0,none⟩ 1 1 cs hx (by rw[ht.six]) (fun j u hj=>?_) (Lm ht) (by simp only[maxLen];omega) (by omega) hb.size ?_
 ·have e2:((⟨gg,0,none⟩:Addr).add j)=⟨gg,j,none⟩:=by unfold Addr.add;by_cases h0:j=0 <;> simp[h0]
  rw[e2];exact hc j u hj
 ·intro v' w' g1 g2 _ _;exact h v' w' (Cl.snoc hA.1 hB ht g1) (hb.grown g2 hb.size fun k hk=>(hA.lt k hk).1) g2
theorem O3 (l:List Z8):(Bk (l.map Cf)).length=l.length:=by rw[Jd,List.length_map]
theorem Cl.block_lt {K:Nat->Prop}{w0 w:World}{v:Value}{ts:List Ty}(h:Cl K w0 w v ts) {b:Nat}(hb:v.ownBlock=some b):b<w.heap.size:=by
 obtain⟨vs,hA,_⟩:=h;exact (hA.lt b hb).2
theorem Ut (hU:Jw) {K:Nat->Prop}{w:World}{t:Ty}{cs:List Value}(hr:An K w t cs) (kG:∀b,K b->b<w.heap.size) (l:List Z8) (hl:l.length<=1000000) (kK:∀x∈l,x.size<=1000000000000000)
  (KK:∀wx,Below w.heap.size w wx->Calls Tryz.prog 91 #[.agg cs.toArray] wx (Vk wx (some l))) :
  Calls Tryz.prog 61 #[.agg cs.toArray] w (Ek K w (Bl (l.map Cf))):=by
 obtain⟨k,s,n,ps,fs,vs⟩:=t;obtain⟨A,c,A',c',A'',c'',rfl,-⟩:=hr.inv;simp only[Ao]at hr KK ⊢;obtain⟨ts,hS⟩:∃ts,ts=l.map Cf:=⟨_,rfl⟩;have hF:Z9 (ts.length=l.length/\(Bk ts).length<=1000000/\∀i (h:i<l.length),ts.take (i+1)=ts.take i++[Cf l[i]]):=Hd (by
  subst hS;refine⟨List.length_map _,by rw[O3];exact hl,fun i h=>?_⟩;rw[List.take_succ_eq_append_getElem (by rw[List.length_map];exact h),List.getElem_map])
 rw[<-hS];generalize hu:Bl ts=u;obtain⟨k2,s2,n2,hV,hN,hW⟩:=u;have kY:=Hd hu;clear hS;have kT:=Hd hl;have kX:=Hd kK;have aC:=hl;clear hu hl kK;obtain⟨w1,hD⟩:∃x,x=(w.alloc (.cells #[.int .i64 k,.string s,.int .i64 n,.slice A ps.length c,.slice A' fs.length c',.slice A'' vs.length c''] 26)).alloc (.cells #[.int .i64 0,.string ⟨#[]⟩,.int .i64 0,.slice none 0 0,.slice none 0 0,.slice none 0 0] 26):=⟨_,rfl⟩;obtain⟨g,hg⟩:∃g,g=w.heap.size+1:=⟨_,rfl⟩;have hO:Below w.heap.size w w1:=by rw[hD];exact ((Below.refl _ _).alloc (Nat.le_refl _) _).alloc (by simp) _
 have kJ:w1.heap.size=w.heap.size+2:=by rw[hD];simp
 have kL:w1.heap[w.heap.size]?=some (.cells #[.int .i64 k,.string s,.int .i64 n,.slice A ps.length c,.slice A' fs.length c',.slice A'' vs.length c''] 26 (0,0)):=by rw[hD,Below.heap_alloc _ _ _ (by simp)];exact heap_alloc_new w _
 have kM:w1.heap[g]?=some (.cells #[.int .i64 0,.string ⟨#[]⟩,.int .i64 0,.slice none 0 0,.slice none 0 0,.slice none 0 0] 26 (0,0)):=by
  rw[hD,hg];have h:=heap_alloc_new (w.alloc (.cells #[.int .i64 k,.string s,.int .i64 n,.slice A ps.length c,.slice A' fs.length c',.slice A'' vs.length c''] 26)) (.cells #[.int .i64 0,.string ⟨#[]⟩,.int .i64 0,.slice none 0 0,.slice none 0 0,.slice none 0 0] 26);rw[World.size_alloc]at h;exact h
 have HB1:=Hd hO;have HS1:=Hd kJ;have HX0:=Hd kL;have HX1:=Hd kM;have HW1:=Hd hD;have HG:=Hd hg;have hZ:=Hd kG;have HU:=Hd hU;have KC:=Hd (KK w1 hO);unfold Ek;clear hr hO kJ kL kM hD hg kG hU KK;go_enter Tryz.func61,Tryz.ntmps61;go_upto_region 1 with fail
 rw[<-HW1.o,<-HG.o];obtain⟨x0,x1,x2,x3,x4,x5⟩:=Dw HX0.o;go_wp2_with fail;refine KC.o.mono ?_;rintro e w2 ⟨hm,hb⟩;obtain⟨A2,c2,he,kH⟩:∃A2 c2,e=.returned (.agg #[.bool false,.slice A2 l.length c2])/\Cm w2 l A2:=hm;subst he;have hX:=Hd hb;have hY:=Hd (HB1.o.trans (hb.mono HB1.o.size));have kU:=Hd kH;clear kH hb KC x0 x1 x2 x3 x4 x5;go_upto_region 2 with fail
 obtain⟨w3,hJ⟩:∃x,x=w2.alloc (.cells #[.bool false,.slice A2 l.length c2] 132):=⟨_,rfl⟩;rw[<-hJ];have hH:Below w2.heap.size w2 w3:=by rw[hJ];exact (Below.refl _ _).alloc (Nat.le_refl _) _
 have hT:w3.heap[w2.heap.size]?=some (.cells #[.bool false,.slice A2 l.length c2] 132 (0,0)):=by rw[hJ];exact heap_alloc_new w2 _
 have q0:=Ch hT 0;have q1:=Ch hT 1;simp only[List.getElem?_toArray,List.getElem?_cons_zero,List.getElem?_cons_succ]at q0 q1;have kO:=Hd (hY.o.trans (hH.mono hY.o.size));have hM:=Hd (hX.o.trans (hH.mono hX.o.size));have kR:=Hd hH;clear hJ hH hT;go_wp2_with fail
 go_loopw [4,15] (fun ov v wr=>∃(i:Nat),i<=l.length/\v=.int .i64 i/\Cl K w3 wr ov (ts.take i)/\Below w3.heap.size w3 wr) (fun _ v _=>l.length - (intOf v).toNat)
 case atStart=>exact⟨0,by omega,rfl,⟨⟨[],World.ownsRow_nil _ _ _ _,fun i h=>absurd h (by simp)⟩⟩,Below.refl _ _⟩
 case round=>
  obtain⟨i,hi,rfl,ho,hb⟩:=hrel;have HO:=Hd ho;have HB:=Hd hb;by_cases hE:i<l.length
  ·have t1:decide ((i:Int)<(l.length:Int))=true:=by simp;omega
   have kN:wrap64 ((i:Int)+1)=((i+1:Nat):Int):=Ax (by omega);have HM:=Hd (Bf hE);have kS:Z9 (i+1<=l.length):=Hd hE;obtain⟨b,o,hA,-,kD⟩:=kU.o;have aA:=hA (by omega);subst aA;have hL:Z9 (ts.take (i+1)=ts.take i++[Cf l[i]]/\(ts.take i).length+1<=1099511627776):=Hd ⟨hF.o.2.2 i hE,by rw[List.length_take];omega⟩;have hQ:=kX.o _ (List.getElem_mem hE);have z0:wr.cell? ⟨b,o+i,none⟩=some (.string l[i]):=Aa hb (Aa kR.o (kD i hE));generalize l[i]=nm at hL hQ z0;have kV:=Hd hQ;obtain⟨aB,hB,-⟩:=ho;obtain⟨A5,c5,rfl,-⟩:=Fh hB;obtain⟨W2,hG⟩:∃x,x=wr.alloc (.cells #[.int .i64 10,.string nm,.int .i64 0,.slice none 0 0,.slice none 0 0,.slice none 0 0] 26):=⟨_,rfl⟩;have hC:Below wr.heap.size wr W2:=by rw[hG];exact (Below.refl _ _).alloc (Nat.le_refl _) _
   have kW:Z9 (Cl K w3 W2 (.slice A5 (ts.take i).length c5) (ts.take i)):=Hd (HO.o.keep fun b hb=>hC.block b (HO.o.block_lt hb));have HC:Z9 (∀j u,([.int .i64 10,.string nm,.int .i64 0,.slice none 0 0,.slice none 0 0,.slice none 0 0]:List Value)[j]?=some u->W2.cell? ⟨wr.heap.size,j,none⟩=some u):=Hd fun j u hj=>by rw[hG,Ch (heap_alloc_new wr _)];simpa using hj
   have kQ:=Hd (HB.o.trans (hC.mono HB.o.size));have kZ:=Hd hG;clear hi hA kD hb hB hG hC hQ;go_wp2_with (at_builtin;refine wpList_plain rfl fun Kx hK=>?_;rw[<-kZ.o];go_loud (refine Jv (K:=K) (w0:=w3) (gg:=wr.heap.size) (t:=Cf nm) (ts:=ts.take i) _ _ rfl (by rfl) (by rfl) kW.o (Jn K w3 nm kV.o) HC.o kQ.o hL.o.2 ?_));intro v3 w4 hR kE _;refine hK _ _ ?_;clear hK Kx;rw[<-hL.o.1]at hR;have kA:=Hd (And.intro hR kE);clear hR kE z0;go_wp2_with fail;refine⟨⟨i+1,kS.o,by first|rfl|rw[kN],kA.o.1,kA.o.2⟩,?_⟩;first|exact HM.o|(rw[kN];exact HM.o)
  ·have t1:decide ((i:Int)<(l.length:Int))=false:=by simp;omega
   have hP:ts.take i=ts:=List.take_of_length_le (by have:=hF.o.1;omega);rw[hP]at ho;obtain⟨aB,hB,-⟩:=ho;obtain⟨A5,c5,rfl,-⟩:=Fh hB;have ho:=HO.o;rw[hP]at ho;have KU:=Hd (Qa HU.o ho (fun b h=>by have:=hZ.o b h;have:=kO.o.size;omega) hb (by have:=hF.o.2.1;omega) (by have:=hF.o.1;have:=kT.o;omega));clear ho;clear hi hP hB hb;go_wp2_with fail;refine KU.o.mono ?_;rintro e w5 ⟨rs,rfl,kI,kF⟩;have kC:=Hd (hM.o.trans ((HB.o.trans (kF.mono HB.o.size)).mono hM.o.size));have kP:=Hd (HB1.o.trans (kC.o.mono HB1.o.size));have rb:=Ay kC.o (by have:=HG.o;have:=HS1.o;omega) HX1.o;have hI:An (fun b=>K b\/g<b) w5 (Bl ts) rs:=kI.weak fun b h=>h.imp id fun h=>by have:=HG.o;have:=HS1.o;have:=hM.o.size;omega
   rw[kY.o]at hI;obtain⟨Aq,cq,Ag,cg,Ah,ch,rfl,-⟩:=hI.inv;have kB:=Hd hI;simp only[Ao]at kB ⊢;clear kI kF hI KU;obtain⟨q0,q1,q2,q3,q4,q5,z0,z1,z2,z3,z4,z5⟩:=Hr rb;have RBX:=Hd rb;clear rb;go_wp2_with fail;have rs:=Bt RBX.o (.int .i64 k2) (.string s2) (.int .i64 n2) (.slice Aq hV.length cq) (.slice Ag hN.length cg) (.slice Ah hW.length ch);obtain⟨r0,r1,r2,r3,r4,r5⟩:=Dw rs;clear q0 q1 q2 q3 q4 q5 z0 z1 z2 z3 z4 z5 RBX rs;refine bodyPost_ret (v:=.agg #[.int .i64 k2,.string s2,.int .i64 n2,.slice Aq hV.length cq,.slice Ag hN.length cg,.slice Ah hW.length ch]) (by simp[results,Tryz.results61,go_sem,r0,r1,r2,r3,r4,r5]) rfl ?_;clear r0 r1 r2 r3 r4 r5;exact⟨[.int .i64 k2,.string s2,.int .i64 n2,.slice Aq hV.length cq,.slice Ag hN.length cg,.slice Ah hW.length ch],rfl,Fw kB.o (fun b h=>by have:=hZ.o b h;have:=HG.o;omega) (by have:=HG.o;omega) _ _ _ _ _ _,Bj kP.o (by have:=HG.o;omega) _ _ _ _ _ _⟩
theorem Ξ {K:Nat->Prop}{w:World}{t u:Ty}{cs:List Value}(hr:An K w t cs) (hM:∀b,K b->b<w.heap.size) (hL:Co t=true) (KA:∀wx,Below w.heap.size w wx->Calls Tryz.prog 61 #[.agg cs.toArray] wx (Ek K wx u)) :
  Calls Tryz.prog 31 #[.agg cs.toArray] w (Nh K w u):=by
 have KF:=Hd fun wx (hx:Below w.heap.size w wx)=>Fc (hr.later hx);rw[hL]at KF;obtain⟨k,s,n,ps,fs,vs⟩:=t;obtain⟨A,c,A',c',A'',c'',rfl,-⟩:=hr.inv;simp only[Ao]at KF KA ⊢;obtain⟨w1,hA⟩:∃x,x=(w.alloc (.cells #[.int .i64 k,.string s,.int .i64 n,.slice A ps.length c,.slice A' fs.length c',.slice A'' vs.length c''] 26)).alloc (.cells #[.int .i64 0,.string ⟨#[]⟩,.int .i64 0,.slice none 0 0,.slice none 0 0,.slice none 0 0] 26):=⟨_,rfl⟩;obtain⟨g,hg⟩:∃g,g=w.heap.size+1:=⟨_,rfl⟩;have hK:Below w.heap.size w w1:=by rw[hA];exact ((Below.refl _ _).alloc (Nat.le_refl _) _).alloc (by simp) _
 have hO:w1.heap.size=w.heap.size+2:=by rw[hA];simp
 have hP:w1.heap[w.heap.size]?=some (.cells #[.int .i64 k,.string s,.int .i64 n,.slice A ps.length c,.slice A' fs.length c',.slice A'' vs.length c''] 26 (0,0)):=by rw[hA,Below.heap_alloc _ _ _ (by simp)];exact heap_alloc_new w _
 have hQ:w1.heap[g]?=some (.cells #[.int .i64 0,.string ⟨#[]⟩,.int .i64 0,.slice none 0 0,.slice none 0 0,.slice none 0 0] 26 (0,0)):=by
  rw[hA,hg];have h:=heap_alloc_new (w.alloc (.cells #[.int .i64 k,.string s,.int .i64 n,.slice A ps.length c,.slice A' fs.length c',.slice A'' vs.length c''] 26)) (.cells #[.int .i64 0,.string ⟨#[]⟩,.int .i64 0,.slice none 0 0,.slice none 0 0,.slice none 0 0] 26);rw[World.size_alloc]at h;exact h
 have HB1:=Hd hK;have HS1:=Hd hO;have HX0:=Hd hP;have HX1:=Hd hQ;have HW1:=Hd hA;have HG:=Hd hg;have hS:=Hd hM;have hJ:=Hd KA;obtain⟨k2,s2,n2,hC,hB,hD⟩:=u;unfold Nh;clear KA;clear hr hK hO hP hQ hA hg hM hL;go_enter Tryz.func31,Tryz.ntmps31;go_upto_region 1 with fail
 rw[<-HW1.o,<-HG.o];obtain⟨x0,x1,x2,x3,x4,x5⟩:=Dw HX0.o;go_wp2_with fail;refine (KF.o _ HB1.o).mono ?_;rintro e w2 ⟨rfl,hb⟩;have hF:=Hd hb;have hE:=Hd (HB1.o.trans (hb.mono HB1.o.size));have h2:=Ay hb (by have:=HS1.o;omega) HX0.o;clear x0 x1 x2 x3 x4 x5 hb KF;obtain⟨x0,x1,x2,x3,x4,x5⟩:=Dw h2;clear h2;go_wp2_with fail;refine (hJ.o _ hE.o).mono ?_;rintro e w4 ⟨rs,rfl,hN,hG⟩;have hR:=Hd (hE.o.trans (hG.mono hE.o.size));have hT:=Hd (hF.o.trans (hG.mono hF.o.size));have rb:=Ay hT.o (by have:=HG.o;have:=HS1.o;omega) HX1.o;have hH:An (fun b=>K b\/g<b) w4 (.mk k2 s2 n2 hC hB hD) rs:=hN.weak fun b h=>h.imp id fun h=>by have:=HG.o;have:=HS1.o;have:=hF.o.size;omega
 obtain⟨Aq,cq,Ag,cg,Ah,ch,rfl,-⟩:=hH.inv;have hI:=Hd hH;simp only[Ao]at hI ⊢;clear hN hG hH hJ x0 x1 x2 x3 x4 x5;obtain⟨q0,q1,q2,q3,q4,q5,z0,z1,z2,z3,z4,z5⟩:=Hr rb;have RBX:=Hd rb;clear rb;go_wp2_with fail;have rs:=Bt RBX.o (.int .i64 k2) (.string s2) (.int .i64 n2) (.slice Aq hC.length cq) (.slice Ag hB.length cg) (.slice Ah hD.length ch);obtain⟨r0,r1,r2,r3,r4,r5⟩:=Dw rs;clear q0 q1 q2 q3 q4 q5 z0 z1 z2 z3 z4 z5 RBX rs;refine bodyPost_ret (v:=.tuple #[.agg #[.int .i64 k2,.string s2,.int .i64 n2,.slice Aq hC.length cq,.slice Ag hB.length cg,.slice Ah hD.length ch],.int .i64 0]) (by simp[results,Tryz.results31,go_sem,r0,r1,r2,r3,r4,r5]) rfl ?_;clear r0 r1 r2 r3 r4 r5;exact⟨[.int .i64 k2,.string s2,.int .i64 n2,.slice Aq hC.length cq,.slice Ag hB.length cg,.slice Ah hD.length ch],rfl,Fw hI.o (fun b h=>by have:=hS.o b h;have:=HG.o;omega) (by have:=HG.o;omega) _ _ _ _ _ _,Bj hR.o (by have:=HG.o;omega) _ _ _ _ _ _⟩
theorem Yw {K:Nat->Prop}{w:World}{t:Ty}{cs:List Value}(hr:An K w t cs) (hB:∀b,K b->b<w.heap.size) (hn:t.ps.length<=1099511627776) :
  Calls Tryz.prog 50 #[.agg cs.toArray] w (Gu K w (I1 t)):=by
 obtain⟨k,s,n,ps,fs,vs⟩:=t;unfold I1;have e1:Ty.k (.mk k s n ps fs vs)=k:=rfl;have e2:Ty.ps (.mk k s n ps fs vs)=ps:=rfl;rw[e1,e2];rw[e2]at hn;by_cases hA:k=15
 ·subst hA;rw[if_pos rfl];exact Jb0 s n ps fs vs hr hB hn
 rw[if_neg hA];by_cases h1:k=1
 ·subst h1;rw[if_pos rfl];exact Jer s n ps fs vs hr hB
 rw[if_neg h1];exact Jb1 k s n ps fs vs hr hB hA h1
theorem Iq (n:Int):IntKind.i64.wrap n=wrap64 n:=by unfold wrap64;exact IntKind.wrap_i64 n
theorem Us:∀l:List Ty,l.length<=Au l
 | []=>Nat.le_refl _
 | a :: l=>by
  rw[Cj,List.length_cons];have:=Us l;have:=Hk a;omega
theorem Jfq:∀fs:Bv,fs.length<=Bm fs
 | []=>Nat.le_refl _
 | a :: l=>by
  have e:Bm (a :: l)=Am a.2.2+Bm l:=by simp[Bm]
  rw[e,List.length_cons];have:=Jfq l;have:=Hk a.2.2;omega
def Aj (t:Ty):Prop:=∀(K:Nat->Prop) (w:World) (cs:List Value),An K w t cs->Am t<=1000000->Calls Tryz.prog 38 #[.agg cs.toArray] w fun e w'=>e=.returned (.bool (Ai t))/\Below w.heap.size w w'
theorem Wv {l:List Ty}{i:Nat}(h:i<l.length):(l.drop i).all Ai=(Ai l[i] && (l.drop (i+1)).all Ai):=by rw[List.drop_eq_getElem_cons h];rfl
theorem Vo (l:List Ty) (h:∀p∈l,Aj p) {K:Nat->Prop}{w:World}{A:Option Addr}{c:Nat}(hL:Bh K w l A c) (hc:Au l<=1000000) :
  Calls Tryz.prog 69 #[.slice A l.length c] w fun e w'=>e=.returned (.bool (l.all Ai))/\Below w.heap.size w w':=by
 have HL:=Hd hL;have HH:=Hd h;have HC:=Hd hc;have hP:=hL.short;clear hL h hc;go_enter Tryz.func69,Tryz.ntmps69;go_wp2_with fail
 go_loopw [3] (fun v wr=>∃(i:Nat),i<=l.length/\v=.int .i64 i/\l.all Ai=(l.drop i).all Ai/\Below w.heap.size w wr) (fun v _=>l.length - (intOf v).toNat)
 case atStart=>exact⟨0,by omega,rfl,by rw[List.drop_zero],Below.refl _ _⟩
 case round=>
  obtain⟨i,hi,rfl,he,hb⟩:=hrel;have HE:=Hd he;have HB:=Hd hb;clear he hb;by_cases hD:i<l.length
  ·have t1:decide ((i:Int)<(l.length:Int))=true:=by simp;omega
   have hK:wrap64 ((i:Int)+1)=((i+1:Nat):Int):=Ax (by omega);have HM:=Hd (Bf hD);obtain⟨b,o,hA,_,hH⟩:=HL.o.at (by omega);have hJ:=hH i hD;have hF:=HH.o _ (List.getElem_mem hD);have HS:=Hd (Wv hD);have hE:=Nat.le_trans (Hj (List.getElem_mem hD)) HC.o;have hN:Z9 (i+1<=l.length):=Hd hD;subst hA;generalize l[i]=t at hJ hF HS hE;obtain⟨cs,hB,hC⟩:=hJ;have KI:=Hd (hF K wr cs (hC.later HB.o) hE);generalize Ai t=q at HS KI;obtain⟨k2,s2,n2,hQ,hO,hR⟩:=t;obtain⟨Aq,cq,Ag,cg,Ah,ch,rfl,-⟩:=hC.inv;have y0:=Aa HB.o (hB 0 _ rfl);have y1:=Aa HB.o (hB 1 _ rfl);have y2:=Aa HB.o (hB 2 _ rfl);have y3:=Aa HB.o (hB 3 _ rfl);have y4:=Aa HB.o (hB 4 _ rfl);have y5:=Aa HB.o (hB 5 _ rfl);rw[Nat.add_zero]at y0;simp only[Ao]at KI;clear hi hH hF hB hC hE;go_wp2_with fail;refine KI.o.mono ?_;rintro e w2 ⟨rfl,hI⟩;have hG:=Hd (C5 HB.o hI);clear hI KI y0 y1 y2 y3 y4 y5
   cases q with
   | true=>
    go_wp2_with fail;refine⟨⟨i+1,hN.o,by first|rfl|rw[hK],by rw[HE.o,HS.o];rfl,hG.o⟩,?_⟩;first|exact HM.o|(rw[hK];exact HM.o)
   | false=>
    go_wp2_with fail;go_ret
    exact⟨by rw[HE.o,HS.o];rfl,hG.o⟩
  ·have t1:decide ((i:Int)<(l.length:Int))=false:=by simp;omega
   have hM:Z9 (l.all Ai=true):=Hd (by rw[HE.o,List.drop_eq_nil_of_le (by omega)];rfl);clear hi;go_wp2_with fail;go_ret
   exact⟨by rw[hM.o];rfl,HB.o⟩
theorem R2:∀ {l:Bw}{v:Z8×List Ty},v∈l->Au v.2<=Br l
 | a :: l,v,h=>by
  have e:Br (a :: l)=Au a.2+Br l:=by simp[Br]
  rw[e];rcases List.mem_cons.1 h with rfl|h
  ·omega
  ·have:=R2 h;omega
theorem Zn {l:Bw}{i:Nat}{nm:Z8}(h:∀j (hj:j<l.length),j<i->l[j].1≠nm):((l.take i).any fun x=>decide (x.1=nm))=false:=by
 rw[List.any_eq_false];intro x hx;obtain⟨j,hj,rfl⟩:=List.getElem_of_mem hx;simp only[List.length_take]at hj;rw[List.getElem_take];simpa using h j (by omega) (by omega)
theorem Zo {l:Bw}{i j:Nat}{nm:Z8}(hj:j<l.length) (hA:j<i) (h:l[j].1=nm):((l.take i).any fun x=>decide (x.1=nm))=true:=by
 rw[List.any_eq_true];refine⟨l[j],?_,by simpa using h⟩;have:(l.take i)[j]'(by simp;omega)=l[j]:=List.getElem_take;rw[<-this];exact List.getElem_mem _
theorem W0 (l:Bw) (h:∀v∈l,∀b∈v.2,Aj b) {K:Nat->Prop}{w:World}{A:Option Addr}{c:Nat}(hL:Dd K w l A c) (kT:l.length<=1000000000000000) (hc:Br l<=1000000) :
  Calls Tryz.prog 71 #[.slice A l.length c] w fun e w'=>e=.returned (.bool (Ef (Dh l Ai)))/\Below w.heap.size w w':=by
 have HL:=Hd hL;have HH:=Hd h;have HC:=Hd hc;clear hL h hc;go_enter Tryz.func71,Tryz.ntmps71;go_wp2_with fail
 go_loopw [3] (fun v wr=>∃(i:Nat),i<=l.length/\v=.int .i64 i/\(∀j,j<i->okV (Dh l Ai) j=true)/\Below w.heap.size w wr) (fun v _=>l.length - (intOf v).toNat)
 case atStart=>exact⟨0,by omega,rfl,fun j hj=>absurd hj (by omega),Below.refl _ _⟩
 case round=>
  obtain⟨i,hi,rfl,he,hb⟩:=hrel;have HE:=Hd he;have HB:=Hd hb;clear he hb;by_cases hC:i<l.length
  ·have t1:decide ((i:Int)<(l.length:Int))=true:=by simp;omega
   have kG:wrap64 ((i:Int)+1)=((i+1:Nat):Int):=Ax (by omega);have HM:=Hd (Bf hC);obtain⟨b,o,hA,hW⟩:∃b o,A=some ⟨b,o,none⟩/\∀i (h:i<l.length),∃B d,w.cell? ⟨b,o+i*2,none⟩=some (.string l[i].1)/\w.cell? ⟨b,o+i*2+1,none⟩=some (.slice B l[i].2.length d)/\l[i].1.size<=1000000000000000/\Bh K w l[i].2 B d:=by
    obtain⟨b,o,h1,h2⟩:=HL.o;exact⟨b,o,(h1.some (by omega)).1,h2⟩
   obtain⟨B,d,hP,hQ,kF,hT⟩:=hW i hC;have hD:=Hd (Jbv (fv:=Ai) hC);subst hA;have hN:Z9 (okV (Dh l Ai) i=false->Ef (Dh l Ai)=false):=Hd fun e=>by unfold Ef;exact Gn (by rw[Gb];exact hC) e
   have hG:Z9 (∀k (h:k<l.length),∃q,q=l[k].1/\w.cell? ⟨b,o+k*2,none⟩=some (.string q)):=Hd fun k h=>⟨_,rfl,(by obtain⟨B,d,h1,-⟩:=hW k h;exact h1)⟩;have KAll:=Hd fun wx (hx:Below w.heap.size w wx)=>Vo l[i].2 (HH.o _ (List.getElem_mem hC)) (hT.later hx) (Nat.le_trans (R2 (List.getElem_mem hC)) HC.o);generalize l[i].1=nm at hP kF hD;generalize l[i].2=bs at hQ hT hD KAll;have x0:=Aa HB.o hP;have x1:=Aa HB.o hQ;have KN:=Hd (Ks nm wr kF);have kR:=hT.short;have HX:Z9 (∀wx,Below w.heap.size w wx->wx.cell? ⟨b,o+i*2,none⟩=some (.string nm)/\wx.cell? ⟨b,o+i*2+1,none⟩=some (.slice B bs.length d)):=Hd fun wx hx=>⟨Aa hx hP,Aa hx hQ⟩;have kK:Z9 (i+1<=l.length):=Hd hC;clear hi hT hP hQ hW;go_wp2_with fail;refine KN.o.mono ?_;rintro e w2 ⟨rfl,kC⟩;have hF:=Hd (C5 HB.o kC);obtain⟨y0,y1⟩:=HX.o _ hF.o;clear x0 x1 kC KN
   cases hn:Ca nm with
   | false=>
    have HF:=Hd (hN.o (by rw[hD.o,hn];rfl));clear hn;go_wp2_with fail;go_ret
    exact⟨by rw[HF.o];rfl,hF.o⟩
   | true=>
    have HN:=Hd hn;clear hn;by_cases hM:1<bs.length
    ·have t2:decide (1<bs.length)=true:=decide_eq_true hM;have HF:=Hd (hN.o (by rw[hD.o,HN.o,decide_eq_false (by omega)];rfl));go_wp2_with fail;go_ret
     exact⟨by rw[HF.o];rfl,hF.o⟩
    ·have t2:decide (1<bs.length)=false:=decide_eq_false hM;have hZ:Z9 (decide (bs.length<=1)=true):=Hd (decide_eq_true (by omega));go_wp2_with fail;refine (KAll.o _ hF.o).mono ?_;rintro e w3 ⟨rfl,kD⟩;have hR:=Hd (C5 hF.o kD);obtain⟨z0,z1⟩:=HX.o _ hR.o;clear y0 y1 kD KAll
     cases hO:bs.all Ai with
     | false=>
      have HF:=Hd (hN.o (by rw[hD.o,HN.o,hZ.o,hO];rfl));clear hO;go_wp2_with fail;go_ret
      exact⟨by rw[HF.o];rfl,hR.o⟩
     | true=>
      have kI:=Hd hO;clear hO;go_wp2_with fail
      go_loopw [4] (fun v wx=>∃(k:Nat),k<=i/\v=.int .i64 k/\(∀j (hj:j<l.length),j<k->l[j].1≠nm)/\Below w3.heap.size w3 wx) (fun v _=>i - (intOf v).toNat)
      case atStart=>exact⟨0,by omega,rfl,fun j _ hj=>absurd hj (by omega),Below.refl _ _⟩
      case round=>
       obtain⟨k,hk,rfl,kE,hI⟩:=hrel;have kJ:=Hd hI;have hS:=Hd (C5 hR.o hI)
       replace z0:=Aa hI z0
       replace z1:=Aa hI z1
       clear hI;have kB:=Hd kE;clear kE;by_cases hK:k<i
       ·have t3:decide ((k:Int)<(i:Int))=true:=(by simp;omega);have t4:decide (k<i)=true:=decide_eq_true hK;have kH:wrap64 ((k:Int)+1)=((k+1:Nat):Int):=Ax (by omega);have kA:=Hd (Bf hK);obtain⟨q,hq,hJ⟩:=hG.o k (by omega);have kP:=Aa hS.o hJ;have hX:k<l.length:=(by omega);have i1:(k:Int)<(l.length:Int):=(by omega);have i2:(0:Int)<=(k:Int):=(by omega);have i3:(i:Int)<(l.length:Int):=(by omega);have i4:(0:Int)<=(i:Int):=(by omega);have i5:i<l.length:=hC;have HQ:Z9 (∀hX:k<l.length,q=l[k].1):=Hd fun _=>hq;have kL:Z9 (k+1<=i):=Hd hK;have hY:Z9 (∀wx,Below wr.heap.size wr wx->wx.cell? ⟨b,o+k*2,none⟩=some (.string q)):=Hd fun wx hx=>Aa hx kP;have HCN:Z9 (∀wx,Below wr.heap.size wr wx->wx.cell? ⟨b,o+i*2,none⟩=some (.string nm)):=Hd fun wx hx=>Aa hx z0;clear hq hJ;by_cases hE:q=nm
        ·have e13:(q.toList == nm.toList)=true:=(by rw[eqT];exact decide_eq_true hE);have HF:=Hd (hN.o (by rw[hD.o,Zo hX hK ((HQ.o hX).symm.trans hE),Bool.not_true,Bool.and_false]));clear hE hk;go_wp2_with fail;refine wp_region_held_drew (S:=(fun w'=>w'.cell? ⟨b,o+k*2,none⟩=some (.string q)/\w'.cell? ⟨b,o+i*2,none⟩=some (.string nm))) (by kernel_rfl) ⟨hY.o _ (Below.refl _ _).drew,HCN.o _ (Below.refl _ _).drew⟩ (fun hB=>?_);refine Ab.s [0,1,2,3,4,5,6,7,8,9,10] ?_
         iterate 11 ((refine Ab.t (v:=?_) (so rfl) (by kernel_rfl) (by kernel_rfl) (by kernel_rfl) (fun _ _ _ h=>h) (Or.inl ⟨by rfl,?_⟩) hB ?_;rotate_left;focus (intro w' hH;(try dsimp only at hH);obtain⟨kN,kO⟩:=hH;go_simp;try with_reducible rfl));try simp only[Act.put,Az,Ba,Bb])
         refine Ab.d ?_;refine wpAnyH_done (by kernel_rfl) ?_ _;clear hB;go_wp2_with fail;go_ret
         exact⟨by rw[HF.o];rfl,hS.o.drew⟩
        ·have e13:(q.toList == nm.toList)=false:=(by rw[eqT];exact decide_eq_false hE);have hU:Z9 (∀j (hj:j<l.length),j<k+1->l[j].1≠nm):=Hd fun j hj kS=>by
          rcases Nat.lt_or_ge j k with h1|h1
          ·exact kB.o j hj h1
          ·have:j=k:=by omega
           subst this;rw[<-HQ.o hj];exact hE
         clear hE hk;go_wp2_with fail;refine wp_region_held_drew (S:=(fun w'=>w'.cell? ⟨b,o+k*2,none⟩=some (.string q)/\w'.cell? ⟨b,o+i*2,none⟩=some (.string nm))) (by kernel_rfl) ⟨hY.o _ (Below.refl _ _).drew,HCN.o _ (Below.refl _ _).drew⟩ (fun hB=>?_);refine Ab.s [0,1,2,3,4,5,6,7,8,9,10] ?_
         iterate 11 ((refine Ab.t (v:=?_) (so rfl) (by kernel_rfl) (by kernel_rfl) (by kernel_rfl) (fun _ _ _ h=>h) (Or.inl ⟨by rfl,?_⟩) hB ?_;rotate_left;focus (intro w' hH;(try dsimp only at hH);obtain⟨kN,kO⟩:=hH;go_simp;try with_reducible rfl));try simp only[Act.put,Az,Ba,Bb])
         refine Ab.d ?_;refine wpAnyH_done (by kernel_rfl) ?_ _;clear hB;go_wp2_with fail;refine⟨⟨k+1,kL.o,by first|rfl|rw[kH],hU.o,kJ.o.drew⟩,?_⟩;first|exact kA.o|(rw[kH];exact kA.o)
       ·have t3:decide ((k:Int)<(i:Int))=false:=(by simp;omega);have t4:decide (k<i)=false:=decide_eq_false hK;have hV:Z9 (∀j,j<i+1->okV (Dh l Ai) j=true):=Hd fun j hj=>by
         rcases Nat.lt_or_ge j i with h1|h1
         ·exact HE.o j h1
         ·have:j=i:=by omega
          subst this;rw[hD.o,HN.o,hZ.o,kI.o,Zn fun a ha kQ=>kB.o a ha (by omega)];rfl
        clear hk;go_wp2_with fail;refine⟨⟨i+1,kK.o,by first|rfl|rw[kG],hV.o,hS.o⟩,?_⟩;first|exact HM.o|(rw[kG];exact HM.o)
  ·have t1:decide ((i:Int)<(l.length:Int))=false:=by simp;omega
   have kM:Z9 (Ef (Dh l Ai)=true):=Hd (by unfold Ef;rw[Ed];exact fun j hj=>HE.o j (by rw[Gb]at hj;omega));clear hi;go_wp2_with fail;go_ret
   exact⟨by rw[kM.o];rfl,HB.o⟩
theorem Yv (t:Ty):∀x∈C6 t,x.k≠15:=by
 refine Ty.ind (C:=fun t=>∀x∈C6 t,x.k≠15) (fun k t n ps fs vs hp _ _ x hx=>?_) t;rw[Cw]at hx;by_cases h:k=15
 ·rw[if_pos h]at hx;unfold Bk at hx;rw[List.mem_flatten]at hx;obtain⟨l,hl,hx⟩:=hx;obtain⟨p,hm,rfl⟩:=List.mem_map.1 hl;exact hp p hm x hx
 ·rw[if_neg h,List.mem_singleton]at hx;subst hx;exact h
theorem Sa {l:List Ty}{x:Ty}(h:x∈Bk l):x.k≠15:=by
 unfold Bk at h;rw[List.mem_flatten]at h;obtain⟨m,hm,hx⟩:=h;obtain⟨p,-,rfl⟩:=List.mem_map.1 hm;exact Yv p x hx
theorem J4:∀ {l:List Ty},(∀x∈l,x.k≠15)->Bk l=l
 | [],_=>rfl
 | a :: l,h=>by
  obtain⟨k,t,n,ps,fs,vs⟩:=a;have hk:¬ k=15:=h _ List.mem_cons_self;rw[Id,Cw,if_neg hk,J4 fun x hx=>h x (List.mem_cons_of_mem _ hx)];rfl
theorem Vq:∀ {l:List Ty},(∀i (h:i+1<l.length),B6 (l[i]'(by omega)) l[i+1] = -1)->M0 l
 | [],_=>List.Pairwise.nil
 | [a],_=>List.pairwise_singleton _ _
 | a :: b :: l,h=>by
  have ih:M0 (b :: l):=Vq fun i hi=>h (i+1) (by simp at hi ⊢;omega);refine List.pairwise_cons.2 ⟨fun x hx=>?_,ih⟩;have h0:B6 a b = -1:=h 0 (by simp);rcases List.mem_cons.1 hx with rfl|hx
  ·exact h0
  ·exact Ga h0 (List.rel_of_pairwise_cons ih hx)
theorem Lj {ps:List Ty}(h2:2<=ps.length):Ih ps=true↔Bl ps=.mk 15 Bp 0 ps [] []:=by
 unfold Ih;rw[Bool.and_eq_true,Ed,List.all_eq_true]
 constructor
 ·rintro⟨h,hk⟩;have hD:∀x∈ps,x.k≠15:=fun x hx e=>by
   obtain⟨i,hi,rfl⟩:=List.getElem_of_mem hx;have:=h i hi;unfold Rf at this;rw[List.getElem?_eq_getElem hi]at this;simp[e]at this
  have hA:M0 ps:=Vq fun i hi=>by
   have:=h (i+1) hi;unfold Rf at this;rw[List.getElem?_eq_getElem hi]at this;simp only[List.getElem?_eq_getElem (show i<ps.length by omega),Bool.and_eq_true,decide_eq_true_eq]at this;rcases Gq (ps[i]'(by omega)) ps[i+1] with e|e|e
   ·exact e
   ·have h3:=this.2;rw[e]at h3;omega
   ·have h3:=this.2;rw[e]at h3;omega
  have hf:=J4 hD;have hE:Cy ps=ps:=by
   unfold Cy;rw[hf,List.filter_eq_self];exact hk
  unfold Bl;rw[hE,U5 hA];rcases ps with _|⟨x,_|⟨y,l⟩⟩
  ·simp at h2
  ·simp at h2
  ·rfl
 ·intro h;unfold Bl at h;have hL:Dg (Cy ps)=ps:=by
   generalize hs:Dg (Cy ps)=L at h;rcases L with _|⟨x,_|⟨y,l⟩⟩
   ·have:=congrArg Ty.k h;exact absurd this (by show ¬ ((1:Int)=15);decide)
   ·have hx:x∈Cy ps:=(Dj x _).1 (by rw[hs];exact List.mem_cons_self);unfold Cy at hx;have hB:=Sa (List.mem_filter.1 hx).1;have e:x=.mk 15 Bp 0 ps [] []:=h;rw[e]at hB;exact absurd rfl hB
   ·have e:Ty.mk 15 Bp 0 (x :: y :: l) [] []=.mk 15 Bp 0 ps [] []:=h;injection e with _ _ _ e
  have hC:∀x∈ps,x∈Cy ps:=fun x hx=>(Dj x _).1 (by rw[hL];exact hx);have hD:∀x∈ps,x.k≠15:=fun x hx=>Sa (List.mem_filter.1 (hC x hx)).1;have hf:=J4 hD;have hA:M0 ps:=by rw[<-hL];exact F5 _
  refine⟨fun i hi=>?_,fun x hx=>?_⟩
  ·unfold Rf;rw[List.getElem?_eq_getElem hi];have hB:=hD _ (List.getElem_mem hi);rcases i with _|i
   ·simpa using hB
   ·have:=List.pairwise_iff_getElem.1 hA i (i+1) (by omega) hi (by omega);simp only[List.getElem?_eq_getElem (show i<ps.length by omega),this];simpa using hB
  ·have h3:=(List.mem_filter.1 (hC x hx)).2;rw[hf]at h3;exact h3
