import Derived.Test.YtlpfpehegddcfaaGreatDoorMx8
import Derived.Test.YtlpfpehegddcfaaGreatDoorMx9
namespace Go.Proofs.YtlpfpehegddcfaaGreatDoor
set_option maxRecDepth 100000
set_option maxHeartbeats 64000000
open Go.RowKit
def Nk:Array Value:=#[.int .i64 0,.string ⟨#[]⟩,.int .i64 0,.slice none 0 0,.slice none 0 0,.slice none 0 0]
theorem Tj (n:Nat) (hn:n<=1099511627776) (w:World):(Instr.makeSlice 22 (.int .i64 (n:Int)) (.int .i64 (n:Int))).run Tryz.prog w=.ok (.slice (some ⟨w.heap.size,0,none⟩) n n) (w.alloc (.cells (madeCells Nk (n*6)) 26)):=by
 obtain⟨i0,hA,hB,hC,hD⟩:=Eg Ht;have hr:=run_make (P:=Tryz.prog) w 22 26 i0 _ Tryz.underlying22 hA hB .i64 .i64 n n (by omega) (Int.le_refl _) (by rw[hD];omega) (by omega);simp only[Int.toNat_natCast,hC]at hr;exact hr
theorem Br {w:World}{p r:Addr}{u:Value}(h:∃v,w.cell? p=some v):∃v,(w.setCell r u).cell? p=some v:=by
 obtain⟨v,hv⟩:=h;by_cases e:r=p
 ·subst e;exact⟨u,World.cell?_setCell_same _ _ _ hv⟩
 ·exact⟨v,(World.cell?_setCell_other _ _ _ _ e).trans hv⟩
theorem F4 {w:World}{p:Addr}{u:Value}(h:∃v,w.cell? p=some v):(w.setCell p u).cell? p=some u:=by
 obtain⟨v,hv⟩:=h;exact World.cell?_setCell_same _ _ _ hv
theorem Ew {g a b:Nat}(h:a≠b):(⟨g,a,none⟩:Addr)≠⟨g,b,none⟩:=fun e=>by
 injection e with _ e2 _
 exact h e2
def Ey (w:World) (g y:Nat) (v0 v1 v2 v3 v4 v5:Value):World:=(((((w.setCell ⟨g,y,none⟩ v0).setCell ⟨g,y+1,none⟩ v1).setCell ⟨g,y+2,none⟩ v2).setCell ⟨g,y+3,none⟩ v3).setCell ⟨g,y+4,none⟩ v4).setCell ⟨g,y+5,none⟩ v5
theorem M3 {w:World}{g y:Nat}{v0 v1 v2 v3 v4 v5:Value}{p:Addr}(h:p.block≠g\/p.off<y):(Ey w g y v0 v1 v2 v3 v4 v5).cell? p=w.cell? p:=by
 have hA:∀i,(⟨g,y+i,none⟩:Addr)≠p:=fun i e=>by
  subst e;rcases h with h|h
  ·exact h rfl
  ·have h:y+i<y:=h;omega
 unfold Ey;rw[World.cell?_setCell_other _ _ _ _ (hA 5),World.cell?_setCell_other _ _ _ _ (hA 4),World.cell?_setCell_other _ _ _ _ (hA 3),World.cell?_setCell_other _ _ _ _ (hA 2),World.cell?_setCell_other _ _ _ _ (hA 1),World.cell?_setCell_other _ _ _ _ (show (⟨g,y,none⟩:Addr)≠p from hA 0)]
theorem Pw {w:World}{g y:Nat}{v0 v1 v2 v3 v4 v5:Value}(h:∀x,x<6->∃v,w.cell? ⟨g,y+x,none⟩=some v) :
  ∀x u,([v0,v1,v2,v3,v4,v5]:List Value)[x]?=some u->(Ey w g y v0 v1 v2 v3 v4 v5).cell? ⟨g,y+x,none⟩=some u:=by
 intro x u hu;unfold Ey;rcases x with _|_|_|_|_|_|x
 ·obtain rfl:v0=u:=by simpa using hu
  rw[World.cell?_setCell_other _ _ _ _ (Ew (by omega)),World.cell?_setCell_other _ _ _ _ (Ew (by omega)),World.cell?_setCell_other _ _ _ _ (Ew (by omega)),World.cell?_setCell_other _ _ _ _ (Ew (by omega)),World.cell?_setCell_other _ _ _ _ (Ew (by omega))];exact F4 (h 0 (by omega))
 ·obtain rfl:v1=u:=by simpa using hu
  rw[World.cell?_setCell_other _ _ _ _ (Ew (by omega)),World.cell?_setCell_other _ _ _ _ (Ew (by omega)),World.cell?_setCell_other _ _ _ _ (Ew (by omega)),World.cell?_setCell_other _ _ _ _ (Ew (by omega))];exact F4 (Br (h 1 (by omega)))
 ·obtain rfl:v2=u:=by simpa using hu
  rw[World.cell?_setCell_other _ _ _ _ (Ew (by omega)),World.cell?_setCell_other _ _ _ _ (Ew (by omega)),World.cell?_setCell_other _ _ _ _ (Ew (by omega))];exact F4 (Br (Br (h 2 (by omega))))
 ·obtain rfl:v3=u:=by simpa using hu
  rw[World.cell?_setCell_other _ _ _ _ (Ew (by omega)),World.cell?_setCell_other _ _ _ _ (Ew (by omega))];exact F4 (Br (Br (Br (h 3 (by omega)))))
 ·obtain rfl:v4=u:=by simpa using hu
  rw[World.cell?_setCell_other _ _ _ _ (Ew (by omega))];exact F4 (Br (Br (Br (Br (h 4 (by omega))))))
 ·obtain rfl:v5=u:=by simpa using hu
  exact F4 (Br (Br (Br (Br (Br (h 5 (by omega)))))))
 ·simp at hu
theorem Kh (w:World) (g y:Nat) (v0 v1 v2 v3 v4 v5:Value):(Ey w g y v0 v1 v2 v3 v4 v5).heap.size=w.heap.size:=by simp[Ey]
structure Gr (K:Nat->Prop) (w:World) (g q:Nat) (S:List Ty):Prop where
 lt:g<w.heap.size
 cell:∀y,y<q*6->∃v,w.cell? ⟨g,y,none⟩=some v
 free:∀y,w.frozen? ⟨g,y,none⟩=false
 reps:∀i (h:i<S.length),∃cs,Aw (fun b=>K b\/g<b) w S[i] cs/\∀j u,cs[j]?=some u->w.cell? ⟨g,i*6+j,none⟩=some u
theorem Gr.start (K:Nat->Prop) (w:World) (n:Nat):Gr K (w.alloc (.cells (madeCells Nk (n*6)) 26)) w.heap.size n []:=by
 refine⟨by simp,fun y hy=>?_,fun y=>by simp,fun i h=>absurd h (by simp)⟩;have hs:y<(madeCells Nk (n*6)).size:=by rw[size_madeCells];exact hy
 exact⟨(madeCells Nk (n*6))[y],by rw[cell_of_row _ _ _ _ _ _ (heap_alloc_new w _)];exact Array.getElem?_eq_getElem hs⟩
theorem Gr.put {K:Nat->Prop}{w:World}{g q:Nat}{S:List Ty}{t:Ty}{v0 v1 v2 v3 v4 v5:Value}(h:Gr K w g q S) (hC:∀b,K b->b<g) (hj:S.length<q) (ht:Aw (fun b=>K b\/g<b) w t [v0,v1,v2,v3,v4,v5]) :
  Gr K (Ey w g (S.length*6) v0 v1 v2 v3 v4 v5) g q (S++[t]):=by
 have hA:∀ {t:Ty} {cs:List Value},Aw (fun b=>K b\/g<b) w t cs->Aw (fun b=>K b\/g<b) (Ey w g (S.length*6) v0 v1 v2 v3 v4 v5) t cs:=fun {t cs} hr=>
  Aw.keep (fun _ h=>h) (fun b o v hk hc=>by
   rw[M3 (.inl ?_)]
   ·exact hc
   ·show b≠g;rcases hk with hk|hk
    ·have:=hC b hk;omega
    ·omega) t cs hr
 refine⟨by rw[Kh];exact h.lt,fun y hy=>?_,fun y=>?_,fun i hi=>?_⟩
 ·exact Br (Br (Br (Br (Br (Br (h.cell y hy))))))
 ·simp only[Ey,World.frozen?_setCell];exact h.free y
 ·rw[List.length_append,List.length_singleton]at hi;by_cases hB:i<S.length
  ·obtain⟨cs,h1,h2⟩:=h.reps i hB;have h6:=h1.six;refine⟨cs,by rw[List.getElem_append_left hB];exact hA h1,fun j u hj'=>?_⟩;have hD:=(List.getElem?_eq_some_iff.1 hj').1;rw[M3 (.inr (by show i*6+j<S.length*6;omega))];exact h2 j u hj'
  ·obtain rfl:i=S.length:=by omega
   refine⟨_,by rw[List.getElem_append_right (by omega)];simpa using hA ht,fun j u hj'=>Pw (fun x hx=>h.cell _ (by omega)) j u hj'⟩
theorem Gr.list {K:Nat->Prop}{w:World}{g:Nat}{S:List Ty}(h:Gr K w g S.length S) (hl:S.length<=1000000000000000):Bk (fun b=>K b\/g<=b) w S (some ⟨g,0,none⟩) S.length:=
 ⟨g,0,⟨Nat.le_refl _,hl,(fun h=>by cases h),fun _=>⟨rfl,.inr (Nat.le_refl _)⟩⟩,fun i hi=>by
  obtain⟨cs,h1,h2⟩:=h.reps i hi;exact⟨cs,fun j u hj=>by rw[Nat.zero_add];exact h2 j u hj,h1.weak fun b hb=>hb.imp id fun hb=>Nat.le_of_lt hb⟩⟩
theorem Ki (K:Nat->Prop) (w:World):Aw K w (Hi 1) [.int .i64 1,.string ⟨#[]⟩,.int .i64 0,.slice none 0 0,.slice none 0 0,.slice none 0 0]:=
 Aw.of (by decide) ⟨⟨0,0,⟨by simp,by decide,fun _=>rfl,fun h=>absurd h (by simp)⟩,fun i h=>absurd h (by simp)⟩⟩ ⟨⟨0,0,⟨by simp,by decide,fun _=>rfl,fun h=>absurd h (by simp)⟩,fun i h=>absurd h (by simp)⟩⟩ ⟨⟨0,0,⟨by simp,by decide,fun _=>rfl,fun h=>absurd h (by simp)⟩,fun i h=>absurd h (by simp)⟩⟩
theorem Km {b:Nat}(W:World) (y0 y1 y2 y3 y4 y5:Value) {p:Addr}(h:p.block≠b):((((((W.setCell ⟨b,0,none⟩ y0).setCell ⟨b,1,none⟩ y1).setCell ⟨b,2,none⟩ y2).setCell ⟨b,3,none⟩ y3).setCell ⟨b,4,none⟩ y4).setCell ⟨b,5,none⟩ y5).cell? p=W.cell? p:=by
 refine World.cell?_of_block ?_;rw[Below.heap_setCell _ _ _ _ h,Below.heap_setCell _ _ _ _ h,Below.heap_setCell _ _ _ _ h,Below.heap_setCell _ _ _ _ h,Below.heap_setCell _ _ _ _ h,Below.heap_setCell _ _ _ _ h]
theorem N8:∀l:List Ty,(Cf l).length<=l.length
 | []=>Nat.le_refl _
 | [a]=>Nat.le_refl _
 | a :: b :: l=>by
  have ih:=N8 (b :: l);rw[Cf]
  split
  ·exact Nat.le_trans ih (Nat.le_succ _)
  ·simpa using ih
theorem Ix {K:Nat->Prop}{w w1 W:World}{t:Ty}{cs:List Value}(h:Aw K w1 t cs) (hA:∀b,K b->b<w.heap.size) (hb:Below w1.heap.size w1 W) (y0 y1 y2 y3 y4 y5:Value) :
  Aw (fun b=>K b\/w.heap.size<=b) ((((((W.setCell ⟨w.heap.size,0,none⟩ y0).setCell ⟨w.heap.size,1,none⟩ y1).setCell ⟨w.heap.size,2,none⟩ y2).setCell ⟨w.heap.size,3,none⟩ y3).setCell ⟨w.heap.size,4,none⟩ y4).setCell ⟨w.heap.size,5,none⟩ y5) t cs:=
 Aw.keep (fun _ h=>.inl h) (fun b o v hk hc=>by
  rw[Km W y0 y1 y2 y3 y4 y5 (p:=⟨b,o,none⟩) (by have:=hA b hk;show b≠_;omega)];exact Aa hb hc) t cs h
theorem κ {K:Nat->Prop}{w w1 W:World}{g c:Nat}{dd:List Ty}(h:Fc K w1 W g c dd) (hA:∀b,K b->b<w.heap.size) (hb:Below w1.heap.size w1 W) (hg:w.heap.size<g) (hl:dd.length<=1000000000000000) (y0 y1 y2 y3 y4 y5:Value) :
  Aw (fun b=>K b\/w.heap.size<=b) ((((((W.setCell ⟨w.heap.size,0,none⟩ y0).setCell ⟨w.heap.size,1,none⟩ y1).setCell ⟨w.heap.size,2,none⟩ y2).setCell ⟨w.heap.size,3,none⟩ y3).setCell ⟨w.heap.size,4,none⟩ y4).setCell ⟨w.heap.size,5,none⟩ y5) (.mk 15 Bv 0 dd [] []) [.int .i64 15,.string ⟨#[]⟩,.int .i64 0,.slice (some ⟨g,0,none⟩) dd.length dd.length,.slice none 0 0,.slice none 0 0]:=by
 refine Aw.of (by decide) ⟨⟨g,0,⟨Nat.le_refl _,hl,(fun h=>by cases h),fun _=>⟨rfl,.inr (Nat.le_of_lt hg)⟩⟩,fun i hi=>?_⟩⟩ ⟨⟨0,0,⟨by simp,by decide,fun _=>rfl,fun h=>absurd h (by simp)⟩,fun i h=>absurd h (by simp)⟩⟩ ⟨⟨0,0,⟨by simp,by decide,fun _=>rfl,fun h=>absurd h (by simp)⟩,fun i h=>absurd h (by simp)⟩⟩;obtain⟨cs,h1,h2⟩:=h.reps i dd[i] (List.getElem?_eq_getElem hi);refine⟨cs,fun j u hj=>?_,Ix h1 hA hb _ _ _ _ _ _⟩;rw[Km W y0 y1 y2 y3 y4 y5 (p:=⟨g,0+i*6+j,none⟩) (by show g≠_;omega),Nat.zero_add];exact h2 j u hj
theorem B0 {B b:Nat}{a W:World}(h:Below B a W) (hb:B<=b) (y0 y1 y2 y3 y4 y5:Value):Below B a ((((((W.setCell ⟨b,0,none⟩ y0).setCell ⟨b,1,none⟩ y1).setCell ⟨b,2,none⟩ y2).setCell ⟨b,3,none⟩ y3).setCell ⟨b,4,none⟩ y4).setCell ⟨b,5,none⟩ y5):=
 (((((h.setCell hb y0).setCell hb y1).setCell hb y2).setCell hb y3).setCell hb y4).setCell hb y5
theorem Xl (hS:Jc8) (kO:Jc7) (hC:Jc6) (kN:Jc5) {K:Nat->Prop}{w:World}{l:List Ty}{A:Option Addr}{c:Nat}(hL:Bk K w l A c) (kC:(Bz l).length<=1099511627776) (kT:∀b,K b->b<w.heap.size) :
  Calls Tryz.prog 68 #[.slice A l.length c] w (Gz K w l):=by
 have kA:Below w.heap.size w (w.alloc (.cells #[.int .i64 0,.string ⟨#[]⟩,.int .i64 0,.slice none 0 0,.slice none 0 0,.slice none 0 0] 26)):=(Below.refl _ _).alloc (Nat.le_refl _) _;have KF:=Hd (Yl l K (w.alloc (.cells #[.int .i64 0,.string ⟨#[]⟩,.int .i64 0,.slice none 0 0,.slice none 0 0,.slice none 0 0] 26)) ((w.alloc (.cells #[.int .i64 0,.string ⟨#[]⟩,.int .i64 0,.slice none 0 0,.slice none 0 0,.slice none 0 0] 26)).alloc (.cells #[.bool false,.bool false,.bool false,.bool false] 143)) A c (.slice none 0 0) [] (w.heap.size+1) ⟨false,false,false,false⟩ (hL.later kA) ((Below.refl _ _).alloc (Nat.le_refl _) _) (by simp) (by
  have h:=heap_alloc_new (w.alloc (.cells #[.int .i64 0,.string ⟨#[]⟩,.int .i64 0,.slice none 0 0,.slice none 0 0,.slice none 0 0] 26)) (.cells #[.bool false,.bool false,.bool false,.bool false] 143);rw[World.size_alloc]at h;exact h) ⟨⟨[],World.ownsRow_nil _ _ _ _,fun i h=>absurd h (by simp)⟩⟩ (by simpa using kC))
 have RB:Z9 (∀W,Below (w.alloc (.cells #[.int .i64 0,.string ⟨#[]⟩,.int .i64 0,.slice none 0 0,.slice none 0 0,.slice none 0 0] 26)).heap.size (w.alloc (.cells #[.int .i64 0,.string ⟨#[]⟩,.int .i64 0,.slice none 0 0,.slice none 0 0,.slice none 0 0] 26)) W->W.heap[w.heap.size]?=some (.cells #[.int .i64 0,.string ⟨#[]⟩,.int .i64 0,.slice none 0 0,.slice none 0 0,.slice none 0 0] 26 (0,0))):=Hd fun W hb=>(hb.block w.heap.size (by simp)).trans (heap_alloc_new w _);have hH:=Hd kA;have HS:=Hd hS;have aD:=Hd kO;have HC:=Hd hC;have HCN:=Hd kN;have hW:=Hd kC;have kL:=Hd kT;rw[M6]at KF;unfold Gz;rw[show E5 l=Jz (Eh ((Bz l).filter (Fa (D1 (Bz l))))) from rfl];generalize D1 (Bz l)=hk at KF ⊢;generalize Bz l=ts at KF hW ⊢;have hP:(w.alloc (.cells #[.int .i64 0,.string ⟨#[]⟩,.int .i64 0,.slice none 0 0,.slice none 0 0,.slice none 0 0] 26)).heap.size=w.heap.size+1:=by simp
 have HW1:=Hd hP;clear hL kC kT kA hS kO hC kN hP;obtain⟨i0,aH,aN,aL,aO⟩:=Eg Ht;generalize kX:(w.alloc (.cells #[.int .i64 0,.string ⟨#[]⟩,.int .i64 0,.slice none 0 0,.slice none 0 0,.slice none 0 0] 26))=w1 at KF RB hH HW1;have aA:=Hd kX;clear kX;go_enter Tryz.func68,Tryz.ntmps68;go_wp2_with fail;rw[aA.o];refine KF.o.mono ?_;rintro e w3 ⟨v3,rfl,ho,kE,kB⟩;rw[List.nil_append]at ho;have kF:=Hd kB;have aC:=Hd kE;rcases Fc.of_out ho with ⟨rfl,rfl⟩|⟨g,cc,rfl,hg,hT⟩
 ·clear KF ho kE kB;go_wp2_with fail
  go_loopw [5,14] (fun kv v wr=>kv=.slice none 0 0/\v=.int .i64 0/\Below w1.heap.size w1 wr) (fun _ _ _=>0)
  case atStart=>exact⟨rfl,rfl,kF.o⟩
  case round=>
   obtain⟨rfl,rfl,kP⟩:=hrel;have kH:=Hd kP;clear kP;go_wp2_with fail;refine (aD.o _).mono ?_;rintro e w5 ⟨rfl,hI⟩;have kG:=Hd (kH.o.trans (hI.mono kH.o.size));clear hI;go_wp2_with fail;refine (HCN.o _).mono ?_;rintro e w6 ⟨rfl,hJ⟩;have hD:=Hd (kG.o.trans (hJ.mono kG.o.size));clear hJ;have rb:=RB.o _ hD.o;have q0:=Ch rb 0;have q1:=Ch rb 1;have q2:=Ch rb 2;have q3:=Ch rb 3;have q4:=Ch rb 4;have q5:=Ch rb 5;have z0:=Lib.frozen_of_heap rb 0;have z1:=Lib.frozen_of_heap rb 1;have z2:=Lib.frozen_of_heap rb 2;have z3:=Lib.frozen_of_heap rb 3;have z4:=Lib.frozen_of_heap rb 4;have z5:=Lib.frozen_of_heap rb 5;have rs:=Cd rb (.int .i64 1) (.string ⟨#[]⟩) (.int .i64 0) (.slice none 0 0) (.slice none 0 0) (.slice none 0 0);have r0:=Ch rs 0;have r1:=Ch rs 1;have r2:=Ch rs 2;have r3:=Ch rs 3;have r4:=Ch rs 4;have r5:=Ch rs 5;clear rb rs;go_wp2_with fail;refine bodyPost_ret (v:=.agg #[.int .i64 1,.string ⟨#[]⟩,.int .i64 0,.slice none 0 0,.slice none 0 0,.slice none 0 0]) (by simp[results,Tryz.results68,go_sem,r0,r1,r2,r3,r4,r5]) rfl ?_;clear r0 r1 r2 r3 r4 r5 q0 q1 q2 q3 q4 q5 z0 z1 z2 z3 z4 z5;exact⟨[.int .i64 1,.string ⟨#[]⟩,.int .i64 0,.slice none 0 0,.slice none 0 0,.slice none 0 0],rfl,Ki _ _,B0 (Cx hH.o hD.o) (Nat.le_refl _) _ _ _ _ _ _⟩
 ·have aB:=Hd hT;have HG:=Hd hg;have aF:=hT.le;have aK:=hT.mx;unfold maxLen at aK;clear KF ho kE kB hT hg;go_wp2_with fail
  go_loopw [5,14] (fun kv v wr=>∃(i:Nat) (F:List Ty),v=.int .i64 i/\kv=.slice (some ⟨g,0,none⟩) F.length cc/\H6 K w1 wr (w.heap.size+1) g cc hk ts i F) (fun _ v _=>ts.length - (intOf v).toNat)
  case atStart=>exact⟨0,[],rfl,rfl,by omega,by simp,aC.o,kF.o,by simpa using aB.o⟩
  case round=>
   obtain⟨i,F,rfl,rfl,hr⟩:=hrel;have HR:=Hd hr;by_cases hU:i<ts.length
   ·obtain⟨cs,hA,hB⟩:=hr.at hU;have aG:=hr.fle;have kU:=fun (wy:World) aI hb=>hr.next (w':=wy) hU aI hb;have kV:=fun (wy:World) hb hk=>hr.push (wy:=wy) (cs:=cs) hU hk hb HG.o hA;have hZ:=Hd kU;have hQ:=Hd kV;have ti:decide ((i:Int)<(ts.length:Int))=true:=(by simp;omega);have hV:wrap64 ((i:Int)+1)=((i+1:Nat):Int):=Ba (by have:=hW.o;omega);have HL:=Hd hU;generalize ts[i]=t at hA hZ hQ;obtain⟨k,s,n,ps,fs,ws⟩:=t;obtain⟨Ap,cp,Af,cf,Av,cv,rfl,-⟩:=hA.inv;simp only[Az]at hB hA hQ;have x0:wr.cell? ⟨g,i*6,none⟩=some (.int .i64 k):=hB 0 _ rfl;have x1:=hB 1 _ rfl;have x2:=hB 2 _ rfl;have x3:=hB 3 _ rfl;have x4:=hB 4 _ rfl;have x5:=hB 5 _ rfl;have kD:Below wr.heap.size wr (wr.alloc (.cells #[.int .i64 k,.string s,.int .i64 n,.slice Ap ps.length cp,.slice Af fs.length cf,.slice Av ws.length cv] 26)):=(Below.refl _ _).alloc (Nat.le_refl _) _;have KK:=Hd (Ru (K:=K) (w:=wr.alloc (.cells #[.int .i64 k,.string s,.int .i64 n,.slice Ap ps.length cp,.slice Af fs.length cf,.slice Av ws.length cv] 26)) (g:=w.heap.size+1) (h:=hk) (t:=.mk k s n ps fs ws) (b:=wr.heap.size) (o:=0) (by
     unfold KB;rw[kD.block _ (Array.getElem?_eq_some_iff.1 HR.o.kb).1];exact HR.o.kb) (De.box _ (hA.later (HR.o.below))))
    have kI:=Hd kD;generalize aJ:Fa hk (.mk k s n ps fs ws)=q at KK hZ hQ;clear hr hA hB kU kV kD aJ;go_wp2_with fail;refine KK.o.mono ?_;rintro e w5 ⟨rfl,rfl⟩;have b0:=World.cell?_alloc_new wr #[.int .i64 k,.string s,.int .i64 n,.slice Ap ps.length cp,.slice Af fs.length cf,.slice Av ws.length cv] 26
    cases q with
    | false=>
     go_wp2_with fail;refine⟨⟨i+1,F,by first|rfl|rw[hV],rfl,hZ.o _ (by trivial) kI.o⟩,?_⟩;first|exact Bg HL.o|exact Ev HL.o|(rw[hV];exact Bg HL.o)
    | true=>
     have hD:=Hd (kI.o.alloc (by simp) (.cells #[.int .i64 k,.string s,.int .i64 n,.slice Ap ps.length cp,.slice Af fs.length cf,.slice Av ws.length cv] 26));have hG:Z9 (F.length+1<=cc):=Hd (by omega);have kJ:=Hd (Dz (wr.alloc (.cells #[.int .i64 k,.string s,.int .i64 n,.slice Ap ps.length cp,.slice Af fs.length cf,.slice Av ws.length cv] 26)) [.int .i64 k,.string s,.int .i64 n,.slice Ap ps.length cp,.slice Af fs.length cf,.slice Av ws.length cv] 26);rw[World.size_alloc]at kJ;clear aG x0 x1 x2 x3 x4 x5;go_wp2_with (at_builtin;refine wpList_plain rfl fun K hK=>?_;go_loud (refine Nj _ _ 22 rfl 26 i0 6 Tryz.underlying22 aH aL g 0 F.length cc rfl ⟨wr.heap.size+1,0,none⟩ 1 1 [.int .i64 k,.string s,.int .i64 n,.slice Ap ps.length cp,.slice Af fs.length cf,.slice Av ws.length cv] rfl rfl ?a0 ?a1 ?a2 (F.length*6) (by omega) ?a3 ?_))
     case a0=>exact kJ.o
     case a1=>
      intro u hu;simp only[List.mem_cons,List.not_mem_nil,or_false]at hu;rcases hu with rfl|rfl|rfl|rfl|rfl|rfl <;> rfl
     case a2=>exact hG.o
     case a3=>
      intro j hj;have aM:j<6:=hj;exact (HR.o.row.later hD.o).there (by have:=hG.o;omega)
     refine⟨⟨i+1,_,by first|rfl|rw[hV],?p1,hQ.o _ hD.o (by trivial)⟩,?_⟩
     case p1=>simp
     first|exact Bg HL.o|exact Ev HL.o|(rw[hV];exact Bg HL.o)
   ·have ti:decide ((i:Int)<(ts.length:Int))=false:=(by simp;omega);have hY:Z9 (F=ts.filter (Fa hk)):=Hd (by rw[hr.f,List.take_of_length_le (by omega)]);have hG:Z9 (F.length<=1099511627776):=Hd (by have h1:=hr.fle;have h2:=hr.le;have h3:=hW.o;omega);have KS:=Hd (HS.o K w1 wr g cc F hr.row.pre hr.below HG.o hG.o);clear hr;go_wp2_with fail;refine KS.o.mono ?_;rintro e w5 ⟨rfl,hI,s,kY,hO,hF,hM⟩;have KC:=Hd (HC.o K w1 w5 g cc s hM hI HG.o (by rw[hF];exact hG.o));rw[hF]at KC;have hR:=Hd (Tv kY hO);have kK:Z9 ((Cf s).length<=1099511627776):=Hd (by have h1:=N8 s;have h2:=hG.o;omega);clear hI kY hO hF hM KS;go_wp2_with fail;refine KC.o.mono ?_;rintro e w6 ⟨rfl,hJ,hN⟩;have hD:=Hd hJ;have hE:=Hd hN;clear hJ hN KC;generalize Cf s=d at hR kK hE
    cases d with
    | nil=>
     have rb:=RB.o _ hD.o;have q0:=Ch rb 0;have q1:=Ch rb 1;have q2:=Ch rb 2;have q3:=Ch rb 3;have q4:=Ch rb 4;have q5:=Ch rb 5;have z0:=Lib.frozen_of_heap rb 0;have z1:=Lib.frozen_of_heap rb 1;have z2:=Lib.frozen_of_heap rb 2;have z3:=Lib.frozen_of_heap rb 3;have z4:=Lib.frozen_of_heap rb 4;have z5:=Lib.frozen_of_heap rb 5;have rs:=Cd rb (.int .i64 1) (.string ⟨#[]⟩) (.int .i64 0) (.slice none 0 0) (.slice none 0 0) (.slice none 0 0);have r0:=Ch rs 0;have r1:=Ch rs 1;have r2:=Ch rs 2;have r3:=Ch rs 3;have r4:=Ch rs 4;have r5:=Ch rs 5;clear rb rs;go_wp2_with fail;refine bodyPost_ret (v:=.agg #[.int .i64 1,.string ⟨#[]⟩,.int .i64 0,.slice none 0 0,.slice none 0 0,.slice none 0 0]) (by simp[results,Tryz.results68,go_sem,r0,r1,r2,r3,r4,r5]) rfl ?_;clear r0 r1 r2 r3 r4 r5 q0 q1 q2 q3 q4 q5 z0 z1 z2 z3 z4 z5;exact⟨[.int .i64 1,.string ⟨#[]⟩,.int .i64 0,.slice none 0 0,.slice none 0 0,.slice none 0 0],rfl,by rw[<-hY.o,hR.o];exact Ki _ _,B0 (Cx hH.o hD.o) (Nat.le_refl _) _ _ _ _ _ _⟩
    | cons x d=>
    cases d with
    | nil=>
     obtain⟨cs,hA,hB⟩:=hE.o.reps 0 x rfl;obtain⟨k,s,n,ps,fs,ws⟩:=x;obtain⟨Ap,cp,Af,cf,Av,cv,rfl,-⟩:=hA.inv;simp only[Az]at hB hA;have HREP:=Hd hA;have x0:w6.cell? ⟨g,0,none⟩=some (.int .i64 k):=hB 0 _ rfl;have x1:w6.cell? ⟨g,1,none⟩=some (.string s):=hB 1 _ rfl;have x2:w6.cell? ⟨g,2,none⟩=some (.int .i64 n):=hB 2 _ rfl;have x3:w6.cell? ⟨g,3,none⟩=some (.slice Ap ps.length cp):=hB 3 _ rfl;have x4:w6.cell? ⟨g,4,none⟩=some (.slice Af fs.length cf):=hB 4 _ rfl;have x5:w6.cell? ⟨g,5,none⟩=some (.slice Av ws.length cv):=hB 5 _ rfl;have kQ:1<=cc:=hE.o.le;clear hB hA;have rb:=RB.o _ hD.o;have q0:=Ch rb 0;have q1:=Ch rb 1;have q2:=Ch rb 2;have q3:=Ch rb 3;have q4:=Ch rb 4;have q5:=Ch rb 5;have z0:=Lib.frozen_of_heap rb 0;have z1:=Lib.frozen_of_heap rb 1;have z2:=Lib.frozen_of_heap rb 2;have z3:=Lib.frozen_of_heap rb 3;have z4:=Lib.frozen_of_heap rb 4;have z5:=Lib.frozen_of_heap rb 5;have rs:=Cd rb (.int .i64 k) (.string s) (.int .i64 n) (.slice Ap ps.length cp) (.slice Af fs.length cf) (.slice Av ws.length cv);have r0:=Ch rs 0;have r1:=Ch rs 1;have r2:=Ch rs 2;have r3:=Ch rs 3;have r4:=Ch rs 4;have r5:=Ch rs 5;clear rb rs;go_wp2_with fail;refine bodyPost_ret (v:=.agg #[.int .i64 k,.string s,.int .i64 n,.slice Ap ps.length cp,.slice Af fs.length cf,.slice Av ws.length cv]) (by simp[results,Tryz.results68,go_sem,r0,r1,r2,r3,r4,r5]) rfl ?_;clear r0 r1 r2 r3 r4 r5 q0 q1 q2 q3 q4 q5 z0 z1 z2 z3 z4 z5;exact⟨[.int .i64 k,.string s,.int .i64 n,.slice Ap ps.length cp,.slice Af fs.length cf,.slice Av ws.length cv],rfl,by rw[<-hY.o,hR.o];exact Ix HREP.o kL.o hD.o _ _ _ _ _ _,B0 (Cx hH.o hD.o) (Nat.le_refl _) _ _ _ _ _ _⟩
    | cons y d=>
     have kR:((x :: y :: d).length:Int)≠0:=(by simp;omega);have kS:((x :: y :: d).length:Int)≠1:=(by simp;omega);have te0:(((x :: y :: d).length:Int) == 0)=false:=(by simpa using kR);have te1:(((x :: y :: d).length:Int) == 1)=false:=(by simpa using kS);have kM:=Hd (Ya (some ⟨g,0,none⟩) (x :: y :: d).length cc w6 hE.o.le);have kZ:Z9 (Eh F=x :: y :: d):=hR;have hX:Z9 ((x :: y :: d).length<=1099511627776):=kK;have kW:Jz (x :: y :: d)=.mk 15 Bv 0 (x :: y :: d) [] []:=rfl;generalize x :: y :: d=dd at *;have aE:=Hd kW;clear kR kS kW;go_wp2_with fail;refine kM.o.mono ?_;rintro e w7 ⟨rfl,rfl⟩;clear kM;have rb:=RB.o _ hD.o;have q0:=Ch rb 0;have q1:=Ch rb 1;have q2:=Ch rb 2;have q3:=Ch rb 3;have q4:=Ch rb 4;have q5:=Ch rb 5;have z0:=Lib.frozen_of_heap rb 0;have z1:=Lib.frozen_of_heap rb 1;have z2:=Lib.frozen_of_heap rb 2;have z3:=Lib.frozen_of_heap rb 3;have z4:=Lib.frozen_of_heap rb 4;have z5:=Lib.frozen_of_heap rb 5;have rs:=Cd rb (.int .i64 15) (.string ⟨#[]⟩) (.int .i64 0) (.slice (some ⟨g,0,none⟩) dd.length dd.length) (.slice none 0 0) (.slice none 0 0);have r0:=Ch rs 0;have r1:=Ch rs 1;have r2:=Ch rs 2;have r3:=Ch rs 3;have r4:=Ch rs 4;have r5:=Ch rs 5;clear rb rs;go_wp2_with fail;refine bodyPost_ret (v:=.agg #[.int .i64 15,.string ⟨#[]⟩,.int .i64 0,.slice (some ⟨g,0,none⟩) dd.length dd.length,.slice none 0 0,.slice none 0 0]) (by simp[results,Tryz.results68,go_sem,r0,r1,r2,r3,r4,r5]) rfl ?_;clear r0 r1 r2 r3 r4 r5 q0 q1 q2 q3 q4 q5 z0 z1 z2 z3 z4 z5;exact⟨[.int .i64 15,.string ⟨#[]⟩,.int .i64 0,.slice (some ⟨g,0,none⟩) dd.length dd.length,.slice none 0 0,.slice none 0 0],rfl,by rw[<-hY.o,kZ.o,aE.o];exact κ hE.o kL.o hD.o (by have h1:=HG.o;have h2:=HW1.o;omega) (by have:=hX.o;omega) _ _ _ _ _ _,B0 (Cx hH.o hD.o) (Nat.le_refl _) _ _ _ _ _ _⟩
