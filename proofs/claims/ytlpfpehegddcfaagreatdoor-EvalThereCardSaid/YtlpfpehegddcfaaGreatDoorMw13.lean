import Derived.Test.YtlpfpehegddcfaaGreatDoorMw12
namespace Go.Proofs.YtlpfpehegddcfaaGreatDoor
set_option maxRecDepth 100000
set_option maxHeartbeats 64000000
open Go.RowKit
theorem Pk {W:World}{b:Nat}{T:TypeId}{x0 x1 x2 x3 x4 x5 x6 x7:Value}(h:W.heap[b]?=some (.cells #[x0,x1,x2,x3,x4,x5,x6,x7] T (0,0))) (y0 y1 y2 y3 y4 y5 y6 y7:Value) :
  ((((((((W.setCell ⟨b,0,none⟩ (y0)).setCell ⟨b,1,none⟩ (y1)).setCell ⟨b,2,none⟩ (y2)).setCell ⟨b,3,none⟩ (y3)).setCell ⟨b,4,none⟩ (y4)).setCell ⟨b,5,none⟩ (y5)).setCell ⟨b,6,none⟩ (y6)).setCell ⟨b,7,none⟩ (y7)).heap[b]?=some (.cells #[y0,y1,y2,y3,y4,y5,y6,y7] T (0,0)):=by
 have h0:=Go.heap_setCell_same W b 0 _ _ y0 h;have h1:=Go.heap_setCell_same _ b 1 _ _ y1 h0;have h2:=Go.heap_setCell_same _ b 2 _ _ y2 h1;have h3:=Go.heap_setCell_same _ b 3 _ _ y3 h2;have h4:=Go.heap_setCell_same _ b 4 _ _ y4 h3;have h5:=Go.heap_setCell_same _ b 5 _ _ y5 h4;have h6:=Go.heap_setCell_same _ b 6 _ _ y6 h5;exact Go.heap_setCell_same _ b 7 _ _ y7 h6
theorem Is {B b:Nat}{a W:World}(h:Below B a W) (hb:B<=b) (y0 y1 y2 y3 y4 y5 y6 y7:Value):Below B a ((((((((W.setCell ⟨b,0,none⟩ (y0)).setCell ⟨b,1,none⟩ (y1)).setCell ⟨b,2,none⟩ (y2)).setCell ⟨b,3,none⟩ (y3)).setCell ⟨b,4,none⟩ (y4)).setCell ⟨b,5,none⟩ (y5)).setCell ⟨b,6,none⟩ (y6)).setCell ⟨b,7,none⟩ (y7)):=
 (((((((h.setCell hb y0).setCell hb y1).setCell hb y2).setCell hb y3).setCell hb y4).setCell hb y5).setCell hb y6).setCell hb y7
def Zj (K:Nat->Prop) (w:World) (fd:Option (Z8×Int×Ty)):Ending->World->Prop:=fun e w'=>
 (match fd with
  | none=>e=.returned (.tuple #[.agg #[.string ⟨#[]⟩,.int .i64 0,.int .i64 0,.string ⟨#[]⟩,.int .i64 0,.slice none 0 0,.slice none 0 0,.slice none 0 0],.bool false])
  | some f=>∃ds,e=.returned (.tuple #[.agg (.string f.1 :: .int .i64 f.2.1 :: ds).toArray,.bool true])/\An K w f.2.2 ds)/\Below w.heap.size w w'
theorem Xq {l:Bv}{s:Z8}(h:∀j (hj:j<l.length),l[j].1≠s):l.find? (fun f=>decide (f.1=s))=none:=by
 rw[List.find?_eq_none];intro x hx;obtain⟨j,hj,rfl⟩:=List.getElem_of_mem hx;simpa using h j hj
theorem Jdo {l:Bv}{s:Z8}{i:Nat}(hi:i<l.length) (he:l[i].1=s) (h:∀j (hj:j<l.length),j<i->l[j].1≠s):l.find? (fun f=>decide (f.1=s))=some l[i]:=by
 rw[List.find?_eq_some_iff_getElem];exact⟨by simpa using he,i,hi,rfl,fun j hj=>by simpa using h j (by omega) hj⟩
theorem Vs (a b:Z8):(a.toList == b.toList)=decide (a=b):=by
 rw[Bool.eq_iff_iff,beq_iff_eq,decide_eq_true_eq,ByteArray.toList_eq,ByteArray.toList_eq];exact⟨Ev,fun h=>by rw[h]⟩
theorem R9 {K:Nat->Prop}{w:World}{t:Ty}{cs:List Value}(hr:An K w t cs) (name:Z8) :
  Calls Tryz.prog 158 #[.agg cs.toArray,.string name] w (Zj K w (t.fs.find? fun f=>decide (f.1=name))):=by
 obtain⟨k,s,n,ps,fs,vs⟩:=t;obtain⟨A,c,A',c',A'',c'',rfl,-,-,hF,-⟩:=hr.inv;simp only[Ao]at hr ⊢;obtain⟨w1,hG⟩:∃x,x=(w.alloc (.cells #[.int .i64 k,.string s,.int .i64 n,.slice A ps.length c,.slice A' fs.length c',.slice A'' vs.length c''] 26)).alloc (.cells #[.string ⟨#[]⟩,.int .i64 0,.int .i64 0,.string ⟨#[]⟩,.int .i64 0,.slice none 0 0,.slice none 0 0,.slice none 0 0] 59):=⟨_,rfl⟩;obtain⟨g,hg⟩:∃g,g=w.heap.size+1:=⟨_,rfl⟩;have hT:Below w.heap.size w w1:=by rw[hG];exact ((Below.refl _ _).alloc (Nat.le_refl _) _).alloc (by simp) _
 have hW:w1.heap.size=w.heap.size+2:=by rw[hG];simp
 have hX:w1.heap[w.heap.size]?=some (.cells #[.int .i64 k,.string s,.int .i64 n,.slice A ps.length c,.slice A' fs.length c',.slice A'' vs.length c''] 26 (0,0)):=by rw[hG,Below.heap_alloc _ _ _ (by simp)];exact heap_alloc_new w _
 have hY:w1.heap[g]?=some (.cells #[.string ⟨#[]⟩,.int .i64 0,.int .i64 0,.string ⟨#[]⟩,.int .i64 0,.slice none 0 0,.slice none 0 0,.slice none 0 0] 59 (0,0)):=by
  rw[hG,hg];have h:=heap_alloc_new (w.alloc (.cells #[.int .i64 k,.string s,.int .i64 n,.slice A ps.length c,.slice A' fs.length c',.slice A'' vs.length c''] 26)) (.cells #[.string ⟨#[]⟩,.int .i64 0,.int .i64 0,.string ⟨#[]⟩,.int .i64 0,.slice none 0 0,.slice none 0 0,.slice none 0 0] 59);rw[World.size_alloc]at h;exact h
 have HB1:=Hd hT;have HS1:=Hd hW;have HX0:=Hd hX;have HX1:=Hd hY;have HW1:=Hd hG;have HG:=Hd hg;have HF:=Hd hF;have hlf:=hF.shortF;have e0:Ty.fs (.mk k s n ps fs vs)=fs:=rfl;rw[e0];generalize hU:fs.find? (fun f=>decide (f.1=name))=fd;have hP:=Hd hU;clear hr hT hW hX hY hG hg hF e0 hU;go_enter Tryz.func158,Tryz.ntmps158;go_upto_region 1 with fail
 rw[<-HW1.o,<-HG.o];obtain⟨x0,x1,x2,x3,x4,x5⟩:=Dw HX0.o;clear x0 x1 x2 x3 x5;go_wp2_with fail
 go_loopw [10] (fun v wr=>∃(i:Nat),i<=fs.length/\v=.int .i64 i/\(∀j (hj:j<fs.length),j<i->fs[j].1≠name)/\Below w1.heap.size w1 wr) (fun v _=>fs.length - (intOf v).toNat)
 case atStart=>exact⟨0,by omega,rfl,fun j _ hj=>absurd hj (by omega),Below.refl _ _⟩
 case round=>
  obtain⟨i,hi,rfl,hV,hb⟩:=hrel;have HB:=Hd hb;have hB:=Hd (HB1.o.trans (hb.mono HB1.o.size));have hM:=Hd hV;clear hV;have x4':=Aa hb x4;clear x4;by_cases hI:i<fs.length
  ·have t1:decide ((i:Int)<(fs.length:Int))=true:=by simp;omega
   have hZ:wrap64 ((i:Int)+1)=((i+1:Nat):Int):=Ax (by omega);have HM:=Hd (Bf hI);obtain⟨b,o,hA,_,hS⟩:=HF.o.at (by omega);subst hA;obtain⟨hN,hO,kF,kD⟩:=hS i hI;have hQ:Z9 (fs[i].1=name->fd=some fs[i]):=Hd fun e=>by rw[<-hP.o];exact Jdo hI e hM.o
   have kA:Z9 (i+1<=fs.length):=Hd hI;have hR:Z9 (fs[i].1≠name->∀j (hj:j<fs.length),j<i+1->fs[j].1≠name):=Hd fun e j hj kG=>by
    rcases Nat.lt_or_ge j i with h1|h1
    ·exact hM.o j hj h1
    ·have:j=i:=by omega
     subst this;exact e
   obtain⟨ds,hD,hC⟩:=kD;generalize kE:fs[i]=f at hN hO hD hC hQ hR;obtain⟨nm,fl,t2⟩:=f;obtain⟨k2,s2,n2,hJ,hH,hK⟩:=t2;obtain⟨Aq,cq,Ag,cg,Ah,ch,rfl,-⟩:=hC.inv;have kC:=Hd hC;have z0:wr.cell? ⟨b,o+i*8,none⟩=some (.string nm):=Aa hB.o hN;have z1:wr.cell? ⟨b,o+i*8+1,none⟩=some (.int .i64 fl):=Aa hB.o hO;have z2:wr.cell? ⟨b,o+i*8+2,none⟩=some (.int .i64 k2):=Aa hB.o (hD 0 _ rfl);have z3:wr.cell? ⟨b,o+i*8+3,none⟩=some (.string s2):=Aa hB.o (hD 1 _ rfl);have z4:wr.cell? ⟨b,o+i*8+4,none⟩=some (.int .i64 n2):=Aa hB.o (hD 2 _ rfl);have z5:wr.cell? ⟨b,o+i*8+5,none⟩=some (.slice Aq hJ.length cq):=Aa hB.o (hD 3 _ rfl);have z6:wr.cell? ⟨b,o+i*8+6,none⟩=some (.slice Ag hH.length cg):=Aa hB.o (hD 4 _ rfl);have z7:wr.cell? ⟨b,o+i*8+7,none⟩=some (.slice Ah hK.length ch):=Aa hB.o (hD 5 _ rfl);clear kE hi hS hN hO hD hC kF;by_cases hE:nm=name
   ·have t2:(nm.toList == name.toList)=true:=(by rw[Vs];exact decide_eq_true hE);have hL:=Hd (hQ.o hE);have rb:=Ay HB.o (by have:=HG.o;have:=HS1.o;omega) HX1.o;have RBX:=Hd rb;have q0:=Ch rb 0;have u0:=Lib.frozen_of_heap rb 0;have q1:=Ch rb 1;have u1:=Lib.frozen_of_heap rb 1;have q2:=Ch rb 2;have u2:=Lib.frozen_of_heap rb 2;have q3:=Ch rb 3;have u3:=Lib.frozen_of_heap rb 3;have q4:=Ch rb 4;have u4:=Lib.frozen_of_heap rb 4;have q5:=Ch rb 5;have u5:=Lib.frozen_of_heap rb 5;have q6:=Ch rb 6;have u6:=Lib.frozen_of_heap rb 6;have q7:=Ch rb 7;have u7:=Lib.frozen_of_heap rb 7;simp only[List.getElem?_toArray,List.getElem?_cons_zero,List.getElem?_cons_succ]at q0 q1 q2 q3 q4 q5 q6 q7;clear hE rb hb;go_wp2_with fail;have rs:=Pk RBX.o (.string nm) (.int .i64 fl) (.int .i64 k2) (.string s2) (.int .i64 n2) (.slice Aq hJ.length cq) (.slice Ag hH.length cg) (.slice Ah hK.length ch);obtain⟨r0,r1,r2,r3,r4,r5,r6,r7⟩:=cz8 rs;clear rs RBX q0 u0 z0 q1 u1 z1 q2 u2 z2 q3 u3 z3 q4 u4 z4 q5 u5 z5 q6 u6 z6 q7 u7 z7;refine bodyPost_ret (v:=.tuple #[.agg #[.string nm,.int .i64 fl,.int .i64 k2,.string s2,.int .i64 n2,.slice Aq hJ.length cq,.slice Ag hH.length cg,.slice Ah hK.length ch],.bool true]) (by simp[results,Tryz.results158,go_sem,r0,r1,r2,r3,r4,r5,r6,r7]) rfl ?_;clear r0 r1 r2 r3 r4 r5 r6 r7;rw[hL.o];exact⟨⟨[.int .i64 k2,.string s2,.int .i64 n2,.slice Aq hJ.length cq,.slice Ag hH.length cg,.slice Ah hK.length ch],rfl,kC.o⟩,Is hB.o (by have:=HG.o;omega) _ _ _ _ _ _ _ _⟩
   ·have t2:(nm.toList == name.toList)=false:=(by rw[Vs];exact decide_eq_false hE);have kB:=Hd (hR.o hE);clear hE hb;go_wp2_with fail;refine⟨⟨i+1,kA.o,by first|rfl|rw[hZ],kB.o,HB.o⟩,?_⟩;first|exact HM.o|(rw[hZ];exact HM.o)
  ·have t1:decide ((i:Int)<(fs.length:Int))=false:=by simp;omega
   have hL:Z9 (fd=none):=Hd (by rw[<-hP.o];exact Xq fun j hj=>hM.o j hj (by omega));have rb:=Ay HB.o (by have:=HG.o;have:=HS1.o;omega) HX1.o;have RBX:=Hd rb;have q0:=Ch rb 0;have u0:=Lib.frozen_of_heap rb 0;have q1:=Ch rb 1;have u1:=Lib.frozen_of_heap rb 1;have q2:=Ch rb 2;have u2:=Lib.frozen_of_heap rb 2;have q3:=Ch rb 3;have u3:=Lib.frozen_of_heap rb 3;have q4:=Ch rb 4;have u4:=Lib.frozen_of_heap rb 4;have q5:=Ch rb 5;have u5:=Lib.frozen_of_heap rb 5;have q6:=Ch rb 6;have u6:=Lib.frozen_of_heap rb 6;have q7:=Ch rb 7;have u7:=Lib.frozen_of_heap rb 7;simp only[List.getElem?_toArray,List.getElem?_cons_zero,List.getElem?_cons_succ]at q0 q1 q2 q3 q4 q5 q6 q7;clear rb hi hb;go_wp2_with fail;have rs:=Pk RBX.o (.string ⟨#[]⟩) (.int .i64 0) (.int .i64 0) (.string ⟨#[]⟩) (.int .i64 0) (.slice none 0 0) (.slice none 0 0) (.slice none 0 0);obtain⟨r0,r1,r2,r3,r4,r5,r6,r7⟩:=cz8 rs;clear rs RBX q0 u0 q1 u1 q2 u2 q3 u3 q4 u4 q5 u5 q6 u6 q7 u7;refine bodyPost_ret (v:=.tuple #[.agg #[.string ⟨#[]⟩,.int .i64 0,.int .i64 0,.string ⟨#[]⟩,.int .i64 0,.slice none 0 0,.slice none 0 0,.slice none 0 0],.bool false]) (by simp[results,Tryz.results158,go_sem,r0,r1,r2,r3,r4,r5,r6,r7]) rfl ?_;clear r0 r1 r2 r3 r4 r5 r6 r7;rw[hL.o];exact⟨rfl,Is hB.o (by have:=HG.o;omega) _ _ _ _ _ _ _ _⟩
def Ow:Array Value:=#[.int .i64 0,.string ⟨#[]⟩,.int .i64 0,.slice none 0 0,.slice none 0 0,.slice none 0 0]
theorem Uu (n:Nat) (hn:n<=1099511627776) (w:World):(Instr.makeSlice 22 (.int .i64 (n:Int)) (.int .i64 (n:Int))).run Tryz.prog w=.ok (.slice (some ⟨w.heap.size,0,none⟩) n n) (w.alloc (.cells (madeCells Ow (n*6)) 26)):=by
 obtain⟨i0,hA,hB,hC,hD⟩:=Ec Hf;have hr:=run_make (P:=Tryz.prog) w 22 26 i0 _ Tryz.underlying22 hA hB .i64 .i64 n n (by omega) (Int.le_refl _) (by rw[hD];omega) (by omega);simp only[Int.toNat_natCast,hC]at hr;exact hr
theorem Bu {w:World}{p r:Addr}{u:Value}(h:∃v,w.cell? p=some v):∃v,(w.setCell r u).cell? p=some v:=by
 obtain⟨v,hv⟩:=h;by_cases e:r=p
 ·subst e;exact⟨u,World.cell?_setCell_same _ _ _ hv⟩
 ·exact⟨v,(World.cell?_setCell_other _ _ _ _ e).trans hv⟩
theorem Gh {w:World}{p:Addr}{u:Value}(h:∃v,w.cell? p=some v):(w.setCell p u).cell? p=some u:=by
 obtain⟨v,hv⟩:=h;exact World.cell?_setCell_same _ _ _ hv
theorem E6 {g a b:Nat}(h:a≠b):(⟨g,a,none⟩:Addr)≠⟨g,b,none⟩:=fun e=>by
 injection e with _ e2 _
 exact h e2
def E9 (w:World) (g y:Nat) (v0 v1 v2 v3 v4 v5:Value):World:=(((((w.setCell ⟨g,y,none⟩ v0).setCell ⟨g,y+1,none⟩ v1).setCell ⟨g,y+2,none⟩ v2).setCell ⟨g,y+3,none⟩ v3).setCell ⟨g,y+4,none⟩ v4).setCell ⟨g,y+5,none⟩ v5
theorem Od {w:World}{g y:Nat}{v0 v1 v2 v3 v4 v5:Value}{p:Addr}(h:p.block≠g\/p.off<y):(E9 w g y v0 v1 v2 v3 v4 v5).cell? p=w.cell? p:=by
 have hA:∀i,(⟨g,y+i,none⟩:Addr)≠p:=fun i e=>by
  subst e;rcases h with h|h
  ·exact h rfl
  ·have h:y+i<y:=h;omega
 unfold E9;rw[World.cell?_setCell_other _ _ _ _ (hA 5),World.cell?_setCell_other _ _ _ _ (hA 4),World.cell?_setCell_other _ _ _ _ (hA 3),World.cell?_setCell_other _ _ _ _ (hA 2),World.cell?_setCell_other _ _ _ _ (hA 1),World.cell?_setCell_other _ _ _ _ (show (⟨g,y,none⟩:Addr)≠p from hA 0)]
theorem Q6 {w:World}{g y:Nat}{v0 v1 v2 v3 v4 v5:Value}(h:∀x,x<6->∃v,w.cell? ⟨g,y+x,none⟩=some v) :
  ∀x u,([v0,v1,v2,v3,v4,v5]:List Value)[x]?=some u->(E9 w g y v0 v1 v2 v3 v4 v5).cell? ⟨g,y+x,none⟩=some u:=by
 intro x u hu;unfold E9;rcases x with _|_|_|_|_|_|x
 ·obtain rfl:v0=u:=by simpa using hu
  rw[World.cell?_setCell_other _ _ _ _ (E6 (by omega)),World.cell?_setCell_other _ _ _ _ (E6 (by omega)),World.cell?_setCell_other _ _ _ _ (E6 (by omega)),World.cell?_setCell_other _ _ _ _ (E6 (by omega)),World.cell?_setCell_other _ _ _ _ (E6 (by omega))];exact Gh (h 0 (by omega))
 ·obtain rfl:v1=u:=by simpa using hu
  rw[World.cell?_setCell_other _ _ _ _ (E6 (by omega)),World.cell?_setCell_other _ _ _ _ (E6 (by omega)),World.cell?_setCell_other _ _ _ _ (E6 (by omega)),World.cell?_setCell_other _ _ _ _ (E6 (by omega))];exact Gh (Bu (h 1 (by omega)))
 ·obtain rfl:v2=u:=by simpa using hu
  rw[World.cell?_setCell_other _ _ _ _ (E6 (by omega)),World.cell?_setCell_other _ _ _ _ (E6 (by omega)),World.cell?_setCell_other _ _ _ _ (E6 (by omega))];exact Gh (Bu (Bu (h 2 (by omega))))
 ·obtain rfl:v3=u:=by simpa using hu
  rw[World.cell?_setCell_other _ _ _ _ (E6 (by omega)),World.cell?_setCell_other _ _ _ _ (E6 (by omega))];exact Gh (Bu (Bu (Bu (h 3 (by omega)))))
 ·obtain rfl:v4=u:=by simpa using hu
  rw[World.cell?_setCell_other _ _ _ _ (E6 (by omega))];exact Gh (Bu (Bu (Bu (Bu (h 4 (by omega))))))
 ·obtain rfl:v5=u:=by simpa using hu
  exact Gh (Bu (Bu (Bu (Bu (Bu (h 5 (by omega)))))))
 ·simp at hu
theorem Ls (w:World) (g y:Nat) (v0 v1 v2 v3 v4 v5:Value):(E9 w g y v0 v1 v2 v3 v4 v5).heap.size=w.heap.size:=by simp[E9]
structure G7 (K:Nat->Prop) (w:World) (g q:Nat) (S:List Ty):Prop where
 lt:g<w.heap.size
 cell:∀y,y<q*6->∃v,w.cell? ⟨g,y,none⟩=some v
 free:∀y,w.frozen? ⟨g,y,none⟩=false
 reps:∀i (h:i<S.length),∃cs,An (fun b=>K b\/g<b) w S[i] cs/\∀j u,cs[j]?=some u->w.cell? ⟨g,i*6+j,none⟩=some u
theorem G7.start (K:Nat->Prop) (w:World) (n:Nat):G7 K (w.alloc (.cells (madeCells Ow (n*6)) 26)) w.heap.size n []:=by
 refine⟨by simp,fun y hy=>?_,fun y=>by simp,fun i h=>absurd h (by simp)⟩;have hs:y<(madeCells Ow (n*6)).size:=by rw[size_madeCells];exact hy
 exact⟨(madeCells Ow (n*6))[y],by rw[cell_of_row _ _ _ _ _ _ (heap_alloc_new w _)];exact Array.getElem?_eq_getElem hs⟩
theorem G7.put {K:Nat->Prop}{w:World}{g q:Nat}{S:List Ty}{t:Ty}{v0 v1 v2 v3 v4 v5:Value}(h:G7 K w g q S) (hC:∀b,K b->b<g) (hj:S.length<q) (ht:An (fun b=>K b\/g<b) w t [v0,v1,v2,v3,v4,v5]) :
  G7 K (E9 w g (S.length*6) v0 v1 v2 v3 v4 v5) g q (S++[t]):=by
 have hA:∀ {t:Ty} {cs:List Value},An (fun b=>K b\/g<b) w t cs->An (fun b=>K b\/g<b) (E9 w g (S.length*6) v0 v1 v2 v3 v4 v5) t cs:=fun {t cs} hr=>
  An.keep (fun _ h=>h) (fun b o v hk hc=>by
   rw[Od (.inl ?_)]
   ·exact hc
   ·show b≠g;rcases hk with hk|hk
    ·have:=hC b hk;omega
    ·omega) t cs hr
 refine⟨by rw[Ls];exact h.lt,fun y hy=>?_,fun y=>?_,fun i hi=>?_⟩
 ·exact Bu (Bu (Bu (Bu (Bu (Bu (h.cell y hy))))))
 ·simp only[E9,World.frozen?_setCell];exact h.free y
 ·rw[List.length_append,List.length_singleton]at hi;by_cases hB:i<S.length
  ·obtain⟨cs,h1,h2⟩:=h.reps i hB;have h6:=h1.six;refine⟨cs,by rw[List.getElem_append_left hB];exact hA h1,fun j u hj'=>?_⟩;have hD:=(List.getElem?_eq_some_iff.1 hj').1;rw[Od (.inr (by show i*6+j<S.length*6;omega))];exact h2 j u hj'
  ·obtain rfl:i=S.length:=by omega
   refine⟨_,by rw[List.getElem_append_right (by omega)];simpa using hA ht,fun j u hj'=>Q6 (fun x hx=>h.cell _ (by omega)) j u hj'⟩
theorem G7.list {K:Nat->Prop}{w:World}{g:Nat}{S:List Ty}(h:G7 K w g S.length S) (hl:S.length<=1000000000000000):Bh (fun b=>K b\/g<=b) w S (some ⟨g,0,none⟩) S.length:=
 ⟨g,0,⟨Nat.le_refl _,hl,(fun h=>by cases h),fun _=>⟨rfl,.inr (Nat.le_refl _)⟩⟩,fun i hi=>by
  obtain⟨cs,h1,h2⟩:=h.reps i hi;exact⟨cs,fun j u hj=>by rw[Nat.zero_add];exact h2 j u hj,h1.weak fun b hb=>hb.imp id fun hb=>Nat.le_of_lt hb⟩⟩
theorem Fm.sixAt {K:Nat->Prop}{w0 w:World}{g c:Nat}{s:List Ty}(h:Fm K w0 w g c s) {i:Nat}{t:Ty}(hi:s[i]?=some t):∃x0 x1 x2 x3 x4 x5 x6 x7 x8 x9 xa xb,(w.cell? ⟨g,i*6,none⟩=some (.int .i64 x0)/\w.cell? ⟨g,i*6+1,none⟩=some (.string x1)/\w.cell? ⟨g,i*6+2,none⟩=some (.int .i64 x2)/\w.cell? ⟨g,i*6+3,none⟩=some (.slice x3 x4 x5)/\w.cell? ⟨g,i*6+4,none⟩=some (.slice x6 x7 x8)/\w.cell? ⟨g,i*6+5,none⟩=some (.slice x9 xa xb))/\An K w0 t [.int .i64 x0,.string x1,.int .i64 x2,.slice x3 x4 x5,.slice x6 x7 x8,.slice x9 xa xb]:=by
 obtain⟨cs,h1,h2⟩:=h.reps i t hi;obtain⟨k,z,n,ps,fs,vs⟩:=t;obtain⟨A,c,A',c',A'',c'',rfl,_⟩:=h1.inv;exact⟨_,_,_,_,_,_,_,_,_,_,_,_,⟨h2 0 _ rfl,h2 1 _ rfl,h2 2 _ rfl,h2 3 _ rfl,h2 4 _ rfl,h2 5 _ rfl⟩,h1⟩
theorem Fm.six {K:Nat->Prop}{w0 w:World}{g c:Nat}{s:List Ty}(h:Fm K w0 w g c s) {i:Nat}(hi:i<s.length):∃x0 x1 x2 x3 x4 x5 x6 x7 x8 x9 xa xb,(w.cell? ⟨g,i*6,none⟩=some (.int .i64 x0)/\w.cell? ⟨g,i*6+1,none⟩=some (.string x1)/\w.cell? ⟨g,i*6+2,none⟩=some (.int .i64 x2)/\w.cell? ⟨g,i*6+3,none⟩=some (.slice x3 x4 x5)/\w.cell? ⟨g,i*6+4,none⟩=some (.slice x6 x7 x8)/\w.cell? ⟨g,i*6+5,none⟩=some (.slice x9 xa xb))/\An K w0 s[i] [.int .i64 x0,.string x1,.int .i64 x2,.slice x3 x4 x5,.slice x6 x7 x8,.slice x9 xa xb]:=h.sixAt (List.getElem?_eq_getElem hi)
theorem Mz (w:World) (ty:TypeId) (b o n c:Nat) (hn:0<n)
  (hc:∀j,j<n*6->(w.cell? ⟨b,o+j,none⟩).isSome=true/\w.frozen? ⟨b,o+j,none⟩=false) :
  (Builtin.clear_ #[22] ty #[.slice (some ⟨b,o,none⟩) n c]).run Tryz.prog w=.ok (.tuple #[]) (w.setCells b o (Builtin.zeroCells #[.int .i64 0,.string ⟨#[]⟩,.int .i64 0,.slice none 0 0,.slice none 0 0,.slice none 0 0] n).toList):=by
 have hA:(Builtin.zeroCells #[.int .i64 0,.string ⟨#[]⟩,.int .i64 0,.slice none 0 0,.slice none 0 0,.slice none 0 0] n).toList.length=n*6:=by simp[Builtin.zeroCells]
 have hB:=run_storeCells_cells (P:=Tryz.prog) b o (Builtin.zeroCells #[.int .i64 0,.string ⟨#[]⟩,.int .i64 0,.slice none 0 0,.slice none 0 0,.slice none 0 0] n).toList 0 w (by rw[hA];simpa using fun j hj=>(hc j hj).1) (by rw[hA];simpa using fun j hj=>(hc j hj).2) (by
  intro v hv;simp only[Builtin.zeroCells,Array.toList_map,List.mem_map]at hv;obtain⟨i,_,rfl⟩:=hv;have h6:i % 6<6:=Nat.mod_lt _ (by decide);generalize hr:i % 6=r at h6
  match r,h6 with
  | 0,_=>rfl
  | 1,_=>rfl
  | 2,_=>rfl
  | 3,_=>rfl
  | 4,_=>rfl
  | 5,_=>rfl)
 simp only[Nat.add_zero]at hB;obtain⟨m,rfl⟩:∃m,n=m+1:=⟨n - 1,by omega⟩;have hz:(Value.agg #[.int .i64 0,.string ⟨#[]⟩,.int .i64 0,.slice none 0 0,.slice none 0 0,.slice none 0 0]).cells=#[.int .i64 0,.string ⟨#[]⟩,.int .i64 0,.slice none 0 0,.slice none 0 0,.slice none 0 0]:=by rfl
 simp[Builtin.clear_,run_underlying Tryz.underlying22,Tryz.zeroValue26,hz,hB]
structure Gk (K:Nat->Prop) (w0 wr:World) (g c:Nat) (s:List Ty) (m:Nat) (D:List Ty) (i:Nat):Prop where
 le:m+2+i<=s.length
 d:D=Ci (s.take (m+2+i))
 dl:D.length<=m+1+i
 row:Fm K w0 wr g c (D++s.drop D.length)
 below:Below w0.heap.size w0 wr
theorem Gk.at {K:Nat->Prop}{w0 wr:World}{g c:Nat}{s:List Ty}{m:Nat}{D:List Ty}{i:Nat}(h:Gk K w0 wr g c s m D i) {j:Nat}(h1:m+1+i<=j) (h2:j<s.length):(D++s.drop D.length)[j]?=some s[j]:=by
 have:=h.dl;rw[List.getElem?_append_right (by omega),List.getElem?_drop,show D.length+(j - D.length)=j from by omega];exact List.getElem?_eq_getElem h2
theorem Gk.start {K:Nat->Prop}{w0 wr:World}{g c:Nat}{s:List Ty}{m:Nat}(hm:m+1<s.length) (hd:Ci (s.take (m+1))=s.take (m+1)) (he:B6 s[m] s[m+1]=0) (hr:Fm K w0 wr g c s) (hb:Below w0.heap.size w0 wr):Gk K w0 wr g c s m (s.take (m+1)) 0:=by
 have hl:(s.take (m+1)).length=m+1:=by simp;omega
 refine⟨by omega,?_,by omega,by rw[hl,List.take_append_drop];exact hr,hb⟩;have:=Ia (s:=s) (n:=m+1) (by omega) hm;have he':B6 s[m+1 - 1] s[m+1]=0:=he;rw[if_pos he',hd]at this;exact this.symm
theorem Gk.same {K:Nat->Prop}{w0 wr w':World}{g c:Nat}{s:List Ty}{m:Nat}{D:List Ty}{i:Nat}(h:Gk K w0 wr g c s m D i) (hi:m+2+i<s.length) (he:B6 s[m+1+i] s[m+2+i]=0) (hb:Below wr.heap.size wr w'):Gk K w0 w' g c s m D (i+1):=by
 refine⟨by omega,?_,by have:=h.dl;omega,h.row.later hb,h.below.trans (hb.mono h.below.size)⟩;have:=Ia (s:=s) (n:=m+2+i) (by omega) hi;rw[if_pos (by simpa only[show m+2+i - 1=m+1+i from by omega] using he),<-h.d]at this;exact this.symm
theorem Gk.put {K:Nat->Prop}{w0 wr wy:World}{g c:Nat}{s:List Ty}{m:Nat}{D:List Ty}{i:Nat}{cs:List Value}(h:Gk K w0 wr g c s m D i) (hi:m+2+i<s.length) (hn:B6 s[m+1+i] s[m+2+i]≠0) (hg:w0.heap.size<=g) (hb:Below wr.heap.size wr wy) (ht:An K w0 s[m+2+i] cs):Gk K w0 (wy.setCells g (D.length*6) cs) g c s m (D++[s[m+2+i]]) (i+1):=by
 have hA:=h.dl;refine⟨by omega,?_,by simp;omega,(h.row.later hb).put (by omega) ht,Eh hg cs _ _ (h.below.trans (hb.mono h.below.size))⟩;have:=Ia (s:=s) (n:=m+2+i) (by omega) hi;rw[if_neg (by simpa only[show m+2+i - 1=m+1+i from by omega] using hn),<-h.d]at this;exact this.symm
theorem Gk.fin {K:Nat->Prop}{w0 wr:World}{g c:Nat}{s:List Ty}{m:Nat}{D:List Ty}{i:Nat}(h:Gk K w0 wr g c s m D i) (hi:¬ m+2+i<s.length) (hg:w0.heap.size<=g) (L:List Value):D=Ci s/\Fm K w0 (wr.setCells g (D.length*6) L) g c D/\Below w0.heap.size w0 (wr.setCells g (D.length*6) L):=by
 have hE:=h.le;refine⟨by rw[h.d,List.take_of_length_le (by omega)],?_,Eh hg L _ _ h.below⟩;have hp:=h.row.pre;obtain⟨cur,hA,hB⟩:=hp.blk;refine⟨hp.le,hp.mx,Ra g L _ wr ⟨_,_,hA,rfl⟩ _ ⟨_,hA,hB⟩,fun a t ha=>?_⟩;obtain⟨cs,h1,h2⟩:=hp.reps a t ha;have hD:=(List.getElem?_eq_some_iff.1 ha).1;refine⟨cs,h1,fun j u hj=>?_⟩;have hC:=(List.getElem?_eq_some_iff.1 hj).1;rw[h1.six]at hC;rw[World.cell?_setCells_out g L _ wr ⟨g,a*6+j,none⟩ (fun _ _=>by show a*6+j<_\/_<=a*6+j;omega)];exact h2 j u hj
theorem Jgt (x y:Int):Oh (decide (x<y)) (decide (y<x))=Dr x y:=by
 rcases Gy x y with ⟨a,b,e⟩|⟨a,b,e⟩|⟨a,b,e⟩ <;> rw[e,Oh] <;> simp[a,b]
theorem Jg8 (x y:Z8):Oh (Op.bytesLess x.toList y.toList) (!Op.bytesLess x.toList y.toList && !(x.toList == y.toList))=Dt x y:=by
 rcases H5 x y with ⟨a,b,e⟩|⟨a,b,e⟩|⟨a,b,e⟩ <;> rw[e,Oh,a,b] <;> rfl
theorem Yu (k:Int) (t:Z8) (n:Int) (ps:List Ty) (fs:Bv) (vs:Bw) (hp:∀p∈ps,Qd p) (hf:∀f∈fs,Qd f.2.2) (hv:∀v∈vs,∀b∈v.2,Qd b):Qd (.mk k t n ps fs vs):=by
 intro K K' t' w cs cs' h h';obtain⟨k',s',n',ps',fs',vs'⟩:=t';have hD:Gw w ((w.alloc (.cells cs.toArray 26)).alloc (.cells cs'.toArray 26)):=((Gw.refl w).alloc _).alloc _;have a1:=(Dm.box 26 h).later ((Below.refl _ _).alloc (Nat.le_refl _) (.cells cs'.toArray 26));have a2:Dm K' ((w.alloc (.cells cs.toArray 26)).alloc (.cells cs'.toArray 26)) (.mk k' s' n' ps' fs' vs') (w.heap.size+1) 0:=by
  have:=Dm.box (w:=w.alloc (.cells cs.toArray 26)) 26 (h'.later ((Below.refl _ _).alloc (Nat.le_refl _) _));rw[World.size_alloc]at this;exact this
 have hA:=Hd hD;obtain⟨A,c,A2,c2,A3,c3,rfl,-⟩:=h.inv;obtain⟨B,d,B2,d2,B3,d3,rfl,-⟩:=h'.inv;simp only[Ao]at a1 a2 hA ⊢;generalize hE:(w.alloc (.cells #[.int .i64 k,.string t,.int .i64 n,.slice A ps.length c,.slice A2 fs.length c2,.slice A3 vs.length c3] 26)).alloc (.cells #[.int .i64 k',.string s',.int .i64 n',.slice B ps'.length d,.slice B2 fs'.length d2,.slice B3 vs'.length d3] 26)=w2 at a1 a2 hA;have hG:=Hd hE;obtain⟨A',c',A2',c2',A3',c3',⟨x0,x1,x2,x3,x4,x5⟩,-,hP,hF,hV⟩:=a1.six;obtain⟨B',d',B2',d2',B3',d3',⟨y0,y1,y2,y3,y4,y5⟩,-,hP',hF',hV'⟩:=a2.six;rw[Nat.zero_add]at x1 x2 x3 x4 x5 y1 y2 y3 y4 y5;have HX:Z9 (∀wx,Gw w2 wx->(wx.cell? ⟨w.heap.size,3,none⟩=some (.slice A' ps.length c')/\wx.cell? ⟨w.heap.size,4,none⟩=some (.slice A2' fs.length c2')/\wx.cell? ⟨w.heap.size,5,none⟩=some (.slice A3' vs.length c3'))/\wx.cell? ⟨w.heap.size+1,3,none⟩=some (.slice B' ps'.length d')/\wx.cell? ⟨w.heap.size+1,4,none⟩=some (.slice B2' fs'.length d2')/\wx.cell? ⟨w.heap.size+1,5,none⟩=some (.slice B3' vs'.length d3')):=Hd fun wx hx=>⟨⟨Aa hx.below x3,Aa hx.below x4,Aa hx.below x5⟩,Aa hx.below y3,Aa hx.below y4,Aa hx.below y5⟩;have K3:Z9 (∀wx,Gw w2 wx->Calls Tryz.prog 45 #[.slice A' ps.length c',.slice B' ps'.length d'] wx fun e w'=>e=.returned (.int .i64 (Cb (Bz ps) (Bz ps')))/\Gw wx w'):=Hd fun wx hx=>S3 ps ps' hp (hP.later hx.below) (hP'.later hx.below);have K4:Z9 (∀wx,Gw w2 wx->Calls Tryz.prog 46 #[.slice A2' fs.length c2',.slice B2' fs'.length d2'] wx fun e w'=>e=.returned (.int .i64 (Cb (Ea fs) (Ea fs')))/\Gw wx w'):=Hd fun wx hx=>T9 fs fs' hf (hF.later hx.below) (hF'.later hx.below);have K5:Z9 (∀wx,Gw w2 wx->Calls Tryz.prog 47 #[.slice A3' vs.length c3',.slice B3' vs'.length d3'] wx fun e w'=>e=.returned (.int .i64 (Cb (Eb vs) (Eb vs')))/\Gw wx w'):=Hd fun wx hx=>Jcw vs vs' hv (hV.later hx.below) (hV'.later hx.below);have HO:=Hd (Ln k t n ps fs vs k' s' n' ps' fs' vs');have Z0:=Hd (Jgt k k');have Z1:=Hd (Jg8 t s');have Z2:=Hd (Jgt n n');generalize B6 (.mk k t n ps fs vs) (.mk k' s' n' ps' fs' vs')=oo at HO ⊢;generalize Dr k k'=q0 at HO Z0;generalize Dt t s'=q1 at HO Z1;generalize Dr n n'=q2 at HO Z2;generalize Cb (Bz ps) (Bz ps')=q3 at HO K3;generalize Cb (Ea fs) (Ea fs')=q4 at HO K4;generalize Cb (Eb vs) (Eb vs')=q5 at HO K5;clear h h' hD a1 a2 hP hF hV hP' hF' hV' hp hf hv hE x3 x4 x5 y3 y4 y5;go_enter Tryz.func20,Tryz.ntmps20;go_wp2_with fail;rw[hG.o];refine (Cz _ _ _).mono ?_;rintro e w3 ⟨rfl,rfl⟩;rw[Z0.o];by_cases z0:q0=0
 ·have e0:(q0 == 0)=true:=by simpa using z0
  have Q0:=Hd z0;clear z0;go_wp2_with fail;refine (Cz _ _ _).mono ?_;rintro e w3 ⟨rfl,rfl⟩;rw[Z1.o];by_cases z1:q1=0
  ·have e1:(q1 == 0)=true:=by simpa using z1
   have Q1:=Hd z1;clear z1;go_wp2_with fail;refine (Cz _ _ _).mono ?_;rintro e w3 ⟨rfl,rfl⟩;rw[Z2.o];by_cases z2:q2=0
   ·have e2:(q2 == 0)=true:=(by simpa using z2);have Q2:=Hd z2;clear z2;obtain⟨⟨x3,x4,x5⟩,y3,y4,y5⟩:=HX.o _ (Gw.refl _);go_wp2_with fail;clear x3 x4 x5 y3 y4 y5;refine (K3.o _ (Gw.refl _)).mono ?_;rintro e w3 ⟨rfl,hg⟩;have hB:=Hd (hg);clear hg;by_cases z3:q3=0
    ·have e3:(q3 == 0)=true:=(by simpa using z3);have Q3:=Hd z3;clear z3;obtain⟨⟨x3,x4,x5⟩,y3,y4,y5⟩:=HX.o _ hB.o;go_wp2_with fail;clear x3 x4 x5 y3 y4 y5;refine (K4.o _ hB.o).mono ?_;rintro e w4 ⟨rfl,hg⟩;have hC:=Hd (hB.o.trans hg);clear hg;by_cases z4:q4=0
     ·have e4:(q4 == 0)=true:=(by simpa using z4);have Q4:=Hd z4;clear z4;obtain⟨⟨x3,x4,x5⟩,y3,y4,y5⟩:=HX.o _ hC.o;go_wp2_with fail;clear x3 x4 x5 y3 y4 y5;refine (K5.o _ hC.o).mono ?_;rintro e w5 ⟨rfl,hg⟩;have hH:=Hd (hC.o.trans hg);clear hg;go_wp2_with fail;go_ret
      exact⟨by rw[HO.o,Q0.o,Bo,Q1.o,Bo,Q2.o,Bo,Q3.o,Bo,Q4.o,Bo];rfl,hA.o.trans hH.o⟩
     ·have e4:(q4 == 0)=false:=(by simpa using z4);have Q4:=Hd z4;clear z4;go_wp2_with fail;go_ret
      exact⟨by rw[HO.o,Q0.o,Bo,Q1.o,Bo,Q2.o,Bo,Q3.o,Bo,Dv Q4.o];rfl,hA.o.trans hC.o⟩
    ·have e3:(q3 == 0)=false:=(by simpa using z3);have Q3:=Hd z3;clear z3;go_wp2_with fail;go_ret
     exact⟨by rw[HO.o,Q0.o,Bo,Q1.o,Bo,Q2.o,Bo,Dv Q3.o];rfl,hA.o.trans hB.o⟩
   ·have e2:(q2 == 0)=false:=(by simpa using z2);have Q2:=Hd z2;clear z2;go_wp2_with fail;go_ret
    exact⟨by rw[HO.o,Q0.o,Bo,Q1.o,Bo,Dv Q2.o];rfl,hA.o⟩
  ·have e1:(q1 == 0)=false:=by simpa using z1
   have Q1:=Hd z1;clear z1;go_wp2_with fail;go_ret
   exact⟨by rw[HO.o,Q0.o,Bo,Dv Q1.o];rfl,hA.o⟩
 ·have e0:(q0 == 0)=false:=by simpa using z0
  have Q0:=Hd z0;clear z0;go_wp2_with fail;go_ret
  exact⟨by rw[HO.o,Dv Q0.o];rfl,hA.o⟩
theorem Lp (t:Ty):Qd t:=Ty.ind (C:=Qd) (fun k t n ps fs vs hp hf hv=>Yu k t n ps fs vs hp hf hv) t
theorem S2 {K:Nat->Prop}{w W:World}{t:Ty}{cs:List Value}{g:Nat}(ht:An K w t cs) (hb:Below w.heap.size w W) (hA:∀b,K b->b<w.heap.size) (hh:W.heap[g]?=some (.cells cs.toArray 26 (0,0))):Bh (fun b=>K b\/b=g) W [t] (some ⟨g,0,none⟩) 1:=by
 refine⟨g,0,⟨by simp,by simp,(fun h=>by cases h),fun _=>⟨rfl,.inr rfl⟩⟩,fun i hi=>?_⟩;have:i=0:=by simpa using hi
 subst this;refine⟨cs,fun j u hj=>?_,An.keep (fun _ h=>.inl h) (fun b o v hk hc=>(World.cell?_of_block (hb.block b (hA b hk))).trans hc) _ _ ht⟩;rw[Ch hh];simpa using hj
theorem Ja8 (hU:Jw) {K:Nat->Prop}{w:World}{nm:Z8}{fl:Int}{t:Ty}{cs:List Value}(hr:An K w t cs) (hK:∀b,K b->b<w.heap.size) (hR:fl=0\/fl=1\/fl=2\/fl=3) (hn:(Bk [E7 4,t]).length<=1099511627776) :
  Calls Tryz.prog 159 #[.agg (.string nm :: .int .i64 fl :: cs).toArray] w (Ek K w (Js (nm,fl,t))):=by
 obtain⟨k,s,n,ps,fs,vs⟩:=t;obtain⟨A,c,A',c',A'',c'',rfl,-⟩:=hr.inv;simp only[Ao]at hr ⊢;obtain⟨w1,hC⟩:∃x,x=(w.alloc (.cells #[.string nm,.int .i64 fl,.int .i64 k,.string s,.int .i64 n,.slice A ps.length c,.slice A' fs.length c',.slice A'' vs.length c''] 59)).alloc (.cells #[.int .i64 0,.string ⟨#[]⟩,.int .i64 0,.slice none 0 0,.slice none 0 0,.slice none 0 0] 26):=⟨_,rfl⟩;have hH:Below w.heap.size w w1:=by rw[hC];exact ((Below.refl _ _).alloc (Nat.le_refl _) _).alloc (by simp) _
 have hJ:w1.heap.size=w.heap.size+2:=by rw[hC];simp
 have hF:w1.heap[w.heap.size]?=some (.cells #[.string nm,.int .i64 fl,.int .i64 k,.string s,.int .i64 n,.slice A ps.length c,.slice A' fs.length c',.slice A'' vs.length c''] 59 (0,0)):=by rw[hC,Below.heap_alloc _ _ _ (by simp)];exact heap_alloc_new w _
 have hN:w1.heap[w.heap.size+1]?=some (.cells #[.int .i64 0,.string ⟨#[]⟩,.int .i64 0,.slice none 0 0,.slice none 0 0,.slice none 0 0] 26 (0,0)):=by
  rw[hC];have h:=heap_alloc_new (w.alloc (.cells #[.string nm,.int .i64 fl,.int .i64 k,.string s,.int .i64 n,.slice A ps.length c,.slice A' fs.length c',.slice A'' vs.length c''] 59)) (.cells #[.int .i64 0,.string ⟨#[]⟩,.int .i64 0,.slice none 0 0,.slice none 0 0,.slice none 0 0] 26);rw[World.size_alloc]at h;exact h
 have hO:=Hd hK;have HR:=Hd hr;have HB1:=Hd hH;have HS1:=Hd hJ;have HX1:=Hd hN;have HW1:=Hd hC;obtain⟨g,hg⟩:∃g,g=w.heap.size+1:=⟨_,rfl⟩;have HG:=Hd hg;have HL:Z9 (Bh (fun b=>K b\/b=w.heap.size+2) (w1.alloc (.cells #[.int .i64 k,.string s,.int .i64 n,.slice A ps.length c,.slice A' fs.length c',.slice A'' vs.length c''] 26)) [.mk k s n ps fs vs] (some ⟨w.heap.size+2,0,none⟩) 1):=Hd (S2 hr (hH.alloc hH.size _) hK (by rw[<-hJ];exact heap_alloc_new w1 _));have kn:=Uz hU HL.o.both (fun b h=>h.2) hn (by simp);simp only[List.length_singleton]at kn;have KN:=Hd kn;clear kn;have e2:(w1.alloc (.cells #[.int .i64 k,.string s,.int .i64 n,.slice A ps.length c,.slice A' fs.length c',.slice A'' vs.length c''] 26)).heap.size=w.heap.size+3:=by rw[World.size_alloc,hJ]
 have hQ:=Hd e2;rcases hR with rfl|rfl|rfl|rfl
 ·rw[show Js (nm,0,.mk k s n ps fs vs)=.mk k s n ps fs vs from rfl];unfold Ek;obtain⟨x0,x1,x2,x3,x4,x5,x6,x7⟩:=cz8 hF;clear hr hK hH hJ hF hN e2 hg hC;go_enter Tryz.func159,Tryz.ntmps159;go_upto_region 1 with fail
  rw[<-HW1.o,<-HG.o];clear HW1;go_upto_region 3 with fail
  have rb:=HX1.o;rw[<-HG.o]at rb;have hG:=Hd HB1.o;have hr':An (fun b=>K b\/g<b) _ (.mk k s n ps fs vs) [.int .i64 k,.string s,.int .i64 n,.slice A ps.length c,.slice A' fs.length c',.slice A'' vs.length c'']:=(HR.o.later HB1.o).weak fun b h=>Or.inl h;have hA:=Hd hr';clear hr';obtain⟨q0,q1,q2,q3,q4,q5,z0,z1,z2,z3,z4,z5⟩:=Hr rb;have RBX:=Hd rb;clear rb;go_wp2_with fail;have rs:=Bt RBX.o (.int .i64 k) (.string s) (.int .i64 n) (.slice A ps.length c) (.slice A' fs.length c') (.slice A'' vs.length c'');obtain⟨r0,r1,r2,r3,r4,r5⟩:=Dw rs;clear q0 q1 q2 q3 q4 q5 z0 z1 z2 z3 z4 z5 RBX rs;refine bodyPost_ret (v:=.agg #[.int .i64 k,.string s,.int .i64 n,.slice A ps.length c,.slice A' fs.length c',.slice A'' vs.length c'']) (by simp[results,Tryz.results159,go_sem,r0,r1,r2,r3,r4,r5]) rfl ?_;clear r0 r1 r2 r3 r4 r5;exact⟨[.int .i64 k,.string s,.int .i64 n,.slice A ps.length c,.slice A' fs.length c',.slice A'' vs.length c''],rfl,Fw hA.o (fun b h=>by have:=hO.o b h;have:=HG.o;omega) (by have:=HG.o;omega) _ _ _ _ _ _,Bj hG.o (by have:=HG.o;omega) _ _ _ _ _ _⟩
 ·generalize hu:Js (nm,1,.mk k s n ps fs vs)=u;obtain⟨k2,s2,n2,hD,hB,hE⟩:=u;have hP:Z9 (Bl [E7 4,.mk k s n ps fs vs]=.mk k2 s2 n2 hD hB hE):=Hd (by rw[<-hu];rfl);unfold Ek;clear HW1;subst hC;obtain⟨x0,x1,x2,x3,x4,x5,x6,x7⟩:=cz8 hF;clear hr hK hH hJ hF hN e2 hg hu;go_enter Tryz.func159,Tryz.ntmps159;go_wp2_with fail;refine KN.o.mono ?_;rintro e w4 ⟨rs,rfl,hM,hL⟩;have hI:Below _ _ w4:=(((Below.refl _ _).alloc (Nat.le_refl _) _).trans (hL.mono (by simp)));have hG:=Hd (HB1.o.trans (hI.mono HB1.o.size));have rb:=(hI.block (w.heap.size+1) (by have:=HS1.o;omega)).trans HX1.o;have hr':An (fun b=>K b\/w.heap.size+1<b) w4 (Bl [E7 4,.mk k s n ps fs vs]) rs:=hM.weak fun b h=>by
   rcases h with ⟨h|h,-⟩|h
   ·exact .inl h
   ·exact .inr (by omega)
   ·exact .inr (by have:=hQ.o;omega)
  clear hM hL KN hI x0 x1 x2 x3 x4 x5 x6 x7;rw[hP.o]at hr';obtain⟨Aq,cq,Ag,cg,Ah,ch,rfl,-⟩:=hr'.inv;have hA:=Hd hr';simp only[Ao]at hA ⊢;clear hr';obtain⟨q0,q1,q2,q3,q4,q5,z0,z1,z2,z3,z4,z5⟩:=Hr rb;have RBX:=Hd rb;clear rb;go_wp2_with fail;have rs:=Bt RBX.o (.int .i64 k2) (.string s2) (.int .i64 n2) (.slice Aq hD.length cq) (.slice Ag hB.length cg) (.slice Ah hE.length ch);obtain⟨r0,r1,r2,r3,r4,r5⟩:=Dw rs;clear q0 q1 q2 q3 q4 q5 z0 z1 z2 z3 z4 z5 RBX rs;refine bodyPost_ret (v:=.agg #[.int .i64 k2,.string s2,.int .i64 n2,.slice Aq hD.length cq,.slice Ag hB.length cg,.slice Ah hE.length ch]) (by simp[results,Tryz.results159,go_sem,r0,r1,r2,r3,r4,r5]) rfl ?_;clear r0 r1 r2 r3 r4 r5;exact⟨[.int .i64 k2,.string s2,.int .i64 n2,.slice Aq hD.length cq,.slice Ag hB.length cg,.slice Ah hE.length ch],rfl,Fw hA.o (fun b h=>by have:=hO.o b h;omega) (Nat.le_succ _) _ _ _ _ _ _,Bj hG.o (Nat.le_succ _) _ _ _ _ _ _⟩
 ·rw[show Js (nm,2,.mk k s n ps fs vs)=.mk k s n ps fs vs from rfl];unfold Ek;obtain⟨x0,x1,x2,x3,x4,x5,x6,x7⟩:=cz8 hF;clear hr hK hH hJ hF hN e2 hg hC;go_enter Tryz.func159,Tryz.ntmps159;go_upto_region 1 with fail
  rw[<-HW1.o,<-HG.o];clear HW1;go_upto_region 3 with fail
  have rb:=HX1.o;rw[<-HG.o]at rb;have hG:=Hd HB1.o;have hr':An (fun b=>K b\/g<b) _ (.mk k s n ps fs vs) [.int .i64 k,.string s,.int .i64 n,.slice A ps.length c,.slice A' fs.length c',.slice A'' vs.length c'']:=(HR.o.later HB1.o).weak fun b h=>Or.inl h;have hA:=Hd hr';clear hr';obtain⟨q0,q1,q2,q3,q4,q5,z0,z1,z2,z3,z4,z5⟩:=Hr rb;have RBX:=Hd rb;clear rb;go_wp2_with fail;have rs:=Bt RBX.o (.int .i64 k) (.string s) (.int .i64 n) (.slice A ps.length c) (.slice A' fs.length c') (.slice A'' vs.length c'');obtain⟨r0,r1,r2,r3,r4,r5⟩:=Dw rs;clear q0 q1 q2 q3 q4 q5 z0 z1 z2 z3 z4 z5 RBX rs;refine bodyPost_ret (v:=.agg #[.int .i64 k,.string s,.int .i64 n,.slice A ps.length c,.slice A' fs.length c',.slice A'' vs.length c'']) (by simp[results,Tryz.results159,go_sem,r0,r1,r2,r3,r4,r5]) rfl ?_;clear r0 r1 r2 r3 r4 r5;exact⟨[.int .i64 k,.string s,.int .i64 n,.slice A ps.length c,.slice A' fs.length c',.slice A'' vs.length c''],rfl,Fw hA.o (fun b h=>by have:=hO.o b h;have:=HG.o;omega) (by have:=HG.o;omega) _ _ _ _ _ _,Bj hG.o (by have:=HG.o;omega) _ _ _ _ _ _⟩
 ·generalize hu:Js (nm,3,.mk k s n ps fs vs)=u;obtain⟨k2,s2,n2,hD,hB,hE⟩:=u;have hP:Z9 (Bl [E7 4,.mk k s n ps fs vs]=.mk k2 s2 n2 hD hB hE):=Hd (by rw[<-hu];rfl);unfold Ek;clear HW1;subst hC;obtain⟨x0,x1,x2,x3,x4,x5,x6,x7⟩:=cz8 hF;clear hr hK hH hJ hF hN e2 hg hu;go_enter Tryz.func159,Tryz.ntmps159;go_wp2_with fail;refine KN.o.mono ?_;rintro e w4 ⟨rs,rfl,hM,hL⟩;have hI:Below _ _ w4:=(((Below.refl _ _).alloc (Nat.le_refl _) _).trans (hL.mono (by simp)));have hG:=Hd (HB1.o.trans (hI.mono HB1.o.size));have rb:=(hI.block (w.heap.size+1) (by have:=HS1.o;omega)).trans HX1.o;have hr':An (fun b=>K b\/w.heap.size+1<b) w4 (Bl [E7 4,.mk k s n ps fs vs]) rs:=hM.weak fun b h=>by
   rcases h with ⟨h|h,-⟩|h
   ·exact .inl h
   ·exact .inr (by omega)
   ·exact .inr (by have:=hQ.o;omega)
  clear hM hL KN hI x0 x1 x2 x3 x4 x5 x6 x7;rw[hP.o]at hr';obtain⟨Aq,cq,Ag,cg,Ah,ch,rfl,-⟩:=hr'.inv;have hA:=Hd hr';simp only[Ao]at hA ⊢;clear hr';obtain⟨q0,q1,q2,q3,q4,q5,z0,z1,z2,z3,z4,z5⟩:=Hr rb;have RBX:=Hd rb;clear rb;go_wp2_with fail;have rs:=Bt RBX.o (.int .i64 k2) (.string s2) (.int .i64 n2) (.slice Aq hD.length cq) (.slice Ag hB.length cg) (.slice Ah hE.length ch);obtain⟨r0,r1,r2,r3,r4,r5⟩:=Dw rs;clear q0 q1 q2 q3 q4 q5 z0 z1 z2 z3 z4 z5 RBX rs;refine bodyPost_ret (v:=.agg #[.int .i64 k2,.string s2,.int .i64 n2,.slice Aq hD.length cq,.slice Ag hB.length cg,.slice Ah hE.length ch]) (by simp[results,Tryz.results159,go_sem,r0,r1,r2,r3,r4,r5]) rfl ?_;clear r0 r1 r2 r3 r4 r5;exact⟨[.int .i64 k2,.string s2,.int .i64 n2,.slice Aq hD.length cq,.slice Ag hB.length cg,.slice Ah hE.length ch],rfl,Fw hA.o (fun b h=>by have:=hO.o b h;omega) (Nat.le_succ _) _ _ _ _ _ _,Bj hG.o (Nat.le_succ _) _ _ _ _ _ _⟩
theorem R7 {zs:List (List UInt8)}{x:List UInt8}:x∈Lib.compact zs↔∃j,∃h:j<zs.length,(j=0\/zs[j]!≠zs[j - 1]!)/\zs[j]=x:=by
 unfold Lib.compact Lib.compactUpTo;rw[List.mem_map]
 constructor
 ·rintro⟨j,hj,e⟩;obtain⟨h1,h2⟩:=List.mem_filter.1 hj;have h3:j<zs.length:=List.mem_range.1 h1;unfold Lib.keeps at h2;have h4:=of_decide_eq_true h2;simp only[List.getElem!_toArray]at h4 e;refine⟨j,h3,h4,?_⟩;rw[<-e,getElem!_pos zs j h3]
 ·rintro⟨j,h3,h4,e⟩;refine⟨j,List.mem_filter.2 ⟨List.mem_range.2 h3,?_⟩,?_⟩
  ·unfold Lib.keeps;refine decide_eq_true ?_;simp only[List.getElem!_toArray];exact h4
  ·simp only[List.getElem!_toArray];rw[getElem!_pos zs j h3,e]
theorem L9 {zs:List (List UInt8)}{x:List UInt8}:x∈Lib.compact zs↔x∈zs:=by
 rw[R7]
 constructor
 ·rintro⟨j,h,_,e⟩;rw[<-e];exact List.getElem_mem h
 ·intro h;obtain⟨j,hj,e⟩:=List.getElem_of_mem h
  induction j with
  | zero=>exact⟨0,hj,.inl rfl,e⟩
  | succ j ih=>
   by_cases h2:zs[j+1]=zs[j]'(by omega)
   ·exact ih (by omega) (by rw[<-h2];exact e)
   ·refine⟨j+1,hj,.inr ?_,e⟩;rw[getElem!_pos zs (j+1) hj,Nat.add_sub_cancel,getElem!_pos zs j (by omega)];exact h2
theorem Tj {ss:List (List UInt8)}{x:List UInt8}:x∈ss.mergeSort (fun x y=>decide (x<=y))↔x∈ss:=(List.mergeSort_perm _ _).mem_iff
def I3 (l:List Z8):List Z8:=(Lib.compact ((l.map (·.data.toList)).mergeSort fun x y=>decide (x<=y))).map fun x=>⟨x.toArray⟩
theorem Lv (l:List Z8):(I3 l).length<=l.length:=by
 unfold I3 Lib.compact Lib.compactUpTo;rw[List.length_map,List.length_map];refine Nat.le_trans (List.length_filter_le _ _) ?_;rw[List.length_range,List.length_mergeSort,List.length_map];exact Nat.le_refl _
theorem Yn {l:List Z8}{x:Z8}:x∈I3 l↔x∈l:=by
 unfold I3;rw[List.mem_map]
 constructor
 ·rintro⟨y,hy,rfl⟩;rw[L9,Tj,List.mem_map]at hy;obtain⟨z,hz,e⟩:=hy;have:(⟨y.toArray⟩:Z8)=z:=Ev (by rw[<-e]);rw[this];exact hz
 ·intro h;refine⟨x.data.toList,?_,Ev rfl⟩;rw[L9,Tj];exact List.mem_map_of_mem h
