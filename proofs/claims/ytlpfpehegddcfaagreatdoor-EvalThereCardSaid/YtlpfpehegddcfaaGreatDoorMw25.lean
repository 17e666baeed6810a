import Derived.Test.YtlpfpehegddcfaaGreatDoorMw24
namespace Go.Proofs.YtlpfpehegddcfaaGreatDoor
set_option maxRecDepth 100000
set_option maxHeartbeats 64000000
open Go.RowKit
def aB:Z8:=⟨#[97]⟩
def Ku:Ty:=.mk 14 Bp 0 [] [(aB,0,E7 7)] []
theorem Jf8:Ca aB=true:=by kernel_rfl
theorem X8:Ai Ku=true:=by
 unfold Ku;rw[Aw,show Ak 14=⟨false,false,true,false,0,0,true⟩ from rfl];have hf:Cd (Bn [(aB,0,E7 7)] Ai)=true:=by
  unfold Cd;rw[Ed];intro j hj;have hA:j=0:=by simp[Bn]at hj;exact hj
  subst hA;rw[I0 (by simp)];simp[Jf8,Nw (k:=7) (by decide) (by decide)]
 have hs:Bq 14 Bp 0 [] (Cd (Bn [(aB,0,E7 7)] Ai)) (Ef (Dh [] Ai))=true:=by
  unfold Bq;simpa using hf
 rw[hs];unfold Ar;simp[J1]
theorem R4:Am Ku=2:=by
 unfold Ku;rw[B0];simp[Au,Bm,Br,Kg]
theorem Mg:Co Ku=true:=by
 unfold Co;rw[R4,X8];rfl
theorem Yl:Bl ([aB].map Cf)=Cf aB:=Ve (G1 aB)
theorem Jc5:Zh Ku (Cf aB)=E7 7:=by
 rw[Wx rfl];have e:Ty.fs Ku=[(aB,0,E7 7)]:=rfl;rw[e];unfold Gj;simp[Js]
theorem Zr:AtP Ku (Cf aB):=fun K w cs ds hr hp hA ht _ _ _=>by
 have e:Zh Ku (Cf aB)=Gj [(aB,0,E7 7)] aB:=by
  rw[Zq];rfl
 rw[e];unfold Ku at hr ht;unfold Cf at hp;exact Jgj Wp Bp 0 [] [(aB,0,E7 7)] [] aB 0 [] [] [] hr hp hA ht (by rw[<-show Ku=.mk 14 Bp 0 [] [(aB,0,E7 7)] [] from rfl,R4];decide)
theorem Ue (s:Z8):Co (Cf s)=true:=by
 unfold Co;rw[G1,show Am (Cf s)=1 from by unfold Cf;rw[B0];rfl];rfl
theorem Ki {K:Nat->Prop}{w:World}{t:Ty}{cs:List Value}(hr:An K w t cs) (hC:∀b,K b->b<w.heap.size) (hA:Co t=true) (hk:t.k=14) (hD:∀f∈t.fs,f.1.size<=1000000000000000) :
  Calls Tryz.prog 31 #[.agg cs.toArray] w (Nh K w (Bl (t.fs.map fun f=>Cf f.1))):=by
 have hB:Am t<=4096:=by
  unfold Co at hA;rw[Bool.and_eq_true,decide_eq_true_eq]at hA;exact hA.1
 refine Ξ hr hC hA fun wx hx=>?_;obtain⟨k,s,n,ps,fs,vs⟩:=t;have hk':k=14:=hk;subst hk';have hF:fs.length<=4096:=by
  rw[B0]at hB;have h:∀l:Bv,l.length<=Bm l:=fun l=>by
   induction l with
   | nil=>simp
   | cons a l ih=>rw[show Bm (a :: l)=Am a.2.2+Bm l by simp[Bm],List.length_cons];have:=Hk a.2.2;omega
  have:=h fs;omega
 have h:=Ut Wp (hr.later hx) (fun b hb=>Nat.lt_of_lt_of_le (hC b hb) hx.size) (fs.map fun f=>f.1) (by rw[List.length_map];omega) (fun x hE=>by
  obtain⟨f,hf,rfl⟩:=List.mem_map.1 hE;exact hD f hf) fun wy hy=>Jee s n ps fs vs ((hr.later hx).later hy) (by omega)
 rw[List.map_map]at h;exact h
theorem Jc6 (w:World):Calls Tryz.prog 24 #[] w fun e w'=>e=.returned (.bool true)/\Below w.heap.size w w':=by
 go_enter Tryz.func24,Tryz.ntmps24;go_wp2_with fail;refine (Jg4 7 w).mono ?_;rintro e w2 ⟨rfl,kI⟩;have kE:=Hd kI;clear kI;go_upto_region 2 with fail
 generalize hW:(w2.alloc (.cells #[.string ⟨#[97]⟩,.int .i64 0,.int .i64 7,.string ⟨#[]⟩,.int .i64 0,.slice none 0 0,.slice none 0 0,.slice none 0 0] 59)).alloc (.cells #[.int .i64 14,.string ⟨#[]⟩,.int .i64 0,.slice none 0 0,.slice (some ⟨w2.heap.size,0,none⟩) 1 1,.slice none 0 0] 26)=w1;have kH:Below w2.heap.size w2 w1:=by rw[<-hW];exact ((Below.refl _ _).alloc (Nat.le_refl _) _).alloc (by simp) _
 have kM:w1.heap.size=w2.heap.size+2:=by rw[<-hW];simp
 have hY:w1.heap[w2.heap.size]?=some (.cells #[.string ⟨#[97]⟩,.int .i64 0,.int .i64 7,.string ⟨#[]⟩,.int .i64 0,.slice none 0 0,.slice none 0 0,.slice none 0 0] 59 (0,0)):=by rw[<-hW,Below.heap_alloc _ _ _ (by simp)];exact heap_alloc_new w2 _
 have kD:w1.heap[w2.heap.size+1]?=some (.cells #[.int .i64 14,.string ⟨#[]⟩,.int .i64 0,.slice none 0 0,.slice (some ⟨w2.heap.size,0,none⟩) 1 1,.slice none 0 0] 26 (0,0)):=by
  rw[<-hW];have h:=heap_alloc_new (w2.alloc (.cells #[.string ⟨#[97]⟩,.int .i64 0,.int .i64 7,.string ⟨#[]⟩,.int .i64 0,.slice none 0 0,.slice none 0 0,.slice none 0 0] 59)) (.cells #[.int .i64 14,.string ⟨#[]⟩,.int .i64 0,.slice none 0 0,.slice (some ⟨w2.heap.size,0,none⟩) 1 1,.slice none 0 0] 26);rw[World.size_alloc]at h;exact h
 have hS:An (fun b=>b=w2.heap.size) w1 Ku [.int .i64 14,.string ⟨#[]⟩,.int .i64 0,.slice none 0 0,.slice (some ⟨w2.heap.size,0,none⟩) 1 1,.slice none 0 0]:=by
  refine An.of (by decide) ⟨⟨0,0,⟨by simp,by decide,fun _=>rfl,fun h=>absurd h (by simp)⟩,fun i h=>absurd h (by simp)⟩⟩ ⟨⟨w2.heap.size,0,⟨by simp,by decide,(fun h=>by cases h),fun _=>⟨rfl,rfl⟩⟩,fun i hi=>?_⟩⟩ ⟨⟨0,0,⟨by simp,by decide,fun _=>rfl,fun h=>absurd h (by simp)⟩,fun i h=>absurd h (by simp)⟩⟩;have kQ:i=0:=by simpa using hi
  subst kQ;refine⟨by rw[Ch hY];rfl,by rw[Ch hY];rfl,(show aB.size<=1000000000000000 by decide),[.int .i64 7,.string ⟨#[]⟩,.int .i64 0,.slice none 0 0,.slice none 0 0,.slice none 0 0],fun j u hj=>?_,Wi _ _ 7⟩;rw[Ch hY];rcases j with _|_|_|_|_|_|j
  all_goals first|exact hj|(simp at hj)
 have kL:∀b,b=w2.heap.size->b<w1.heap.size:=fun b h=>by omega
 have hQ:=Hd (Ki hS kL Mg rfl (fun f hf=>by
  have e:Ty.fs Ku=[(aB,0,E7 7)]:=rfl;rw[e,List.mem_singleton]at hf;subst hf;decide))
 have kO:Z9 (Bl (Ku.fs.map fun f=>Cf f.1)=Cf aB):=Hd Yl;have HREP:=Hd hS;have kB:=Hd kD;have HB1:=Hd kH;have HS1:=Hd kM;obtain⟨x0,x1,x2,x3,x4,x5⟩:=Dw kD;clear hW kH kM hY kD hS kL;go_wp2_with fail;refine hQ.o.mono ?_;rintro e w3 ⟨rs,rfl,hT,kJ⟩;rw[kO.o]at hT;unfold Cf at hT;obtain⟨A3,c3,B3,d3,C3,e3,rfl,-⟩:=hT.inv;simp only[Ao,List.length_nil]at hT ⊢;have kP:=Hd hT;have kF:=Hd kJ;clear hT kJ hQ x0 x1 x2 x3 x4 x5;go_upto_region 3 with fail
 generalize hW:w3.alloc (.cells #[.int .i64 10,.string aB,.int .i64 0,.slice A3 0 c3,.slice B3 0 d3,.slice C3 0 e3] 26)=w4;have kC:Below w3.heap.size w3 w4:=by rw[<-hW];exact (Below.refl _ _).alloc (Nat.le_refl _) _
 have kN:w4.heap[w3.heap.size]?=some (.cells #[.int .i64 10,.string aB,.int .i64 0,.slice A3 0 c3,.slice B3 0 d3,.slice C3 0 e3] 26 (0,0)):=by rw[<-hW];exact heap_alloc_new w3 _
 have kK:w3.heap.size<w4.heap.size:=by rw[<-hW];simp
 have kA:=Hd kN;have hR:=Hd kK;have hE:=kF.o.trans (kC.mono kF.o.size);have HBZ:Z9 (Below w.heap.size w w4):=Hd (kE.o.trans ((HB1.o.trans (hE.mono HB1.o.size)).mono kE.o.size));have hZ:Z9 (An (fun _=>True) w4 (Cf aB) [.int .i64 10,.string aB,.int .i64 0,.slice A3 0 c3,.slice B3 0 d3,.slice C3 0 e3]):=Hd ((kP.o.later kC).weak fun _ _=>trivial);have hG:Z9 (∀wx,Below w4.heap.size w4 wx->wx.cell? ⟨w2.heap.size+1,0,none⟩=some (.int .i64 14)/\wx.cell? ⟨w2.heap.size+1,1,none⟩=some (.string ⟨#[]⟩)/\wx.cell? ⟨w2.heap.size+1,2,none⟩=some (.int .i64 0)/\wx.cell? ⟨w2.heap.size+1,3,none⟩=some (.slice none 0 0)/\wx.cell? ⟨w2.heap.size+1,4,none⟩=some (.slice (some ⟨w2.heap.size,0,none⟩) 1 1)/\wx.cell? ⟨w2.heap.size+1,5,none⟩=some (.slice none 0 0)):=Hd fun wx hx=>by
  have h:=Ay (hE.trans (hx.mono hE.size)) (by have:=HS1.o;omega) kB.o;exact⟨Ch h 0,Ch h 1,Ch h 2,Ch h 3,Ch h 4,Ch h 5⟩
 have hV:=Hd fun wx (hx:Below w4.heap.size w4 wx)=>Xn Zr (K:=fun b=>b=w2.heap.size) (HREP.o.later (hE.trans (hx.mono hE.size))) (Jn _ wx aB (by decide)) (fun b hb=>by have:=HS1.o;have:=hE.size;have:=hx.size;omega) Mg (Ue aB);rw[Jc5]at hV;unfold E7 at hV;clear hW kC kN kK hE;refine wp_region_held_drew (S:=(fun w'=>w'.cell? ⟨w2.heap.size+1,0,none⟩=some (.int .i64 14)/\w'.cell? ⟨w2.heap.size+1,1,none⟩=some (.string ⟨#[]⟩)/\w'.cell? ⟨w2.heap.size+1,2,none⟩=some (.int .i64 0)/\w'.cell? ⟨w2.heap.size+1,3,none⟩=some (.slice none 0 0)/\w'.cell? ⟨w2.heap.size+1,4,none⟩=some (.slice (some ⟨w2.heap.size,0,none⟩) 1 1)/\w'.cell? ⟨w2.heap.size+1,5,none⟩=some (.slice none 0 0))) (by kernel_rfl) (hG.o _ (Below.refl _ _).drew) (fun hA=>?_);refine Ab.s [0] ?_;refine Ab.k (so rfl) hA ?_;try simp only[Act.put,Az,Ba,Bb]
 refine Ab.d ?_;refine wpAnyH_ready (rs:=[1,6]) (by kernel_rfl) (by simp) ?_;refine AllReadyH.cons (sd (some 17) rfl) (fun Kx hK=>?_) (AllReadyH.cons (sd (some 4) rfl) (fun Kx hK=>?_) AllReadyH.nil)
 ·go_simp;refine (P6 _ _).mono ?_;rintro e w6 ⟨rfl,hb⟩;have hH:=Hd ((Below.refl w4.heap.size w4).drew.trans (hb.mono (Below.refl w4.heap.size w4).drew.size));clear hb;go_wp2_with fail;refine hK.out _ _ (hG.o _ hH.o) (fun hA=>?_);clear hK Kx;try simp only[Act.put,Az,Ba,Bb]
  refine wpAnyH_ready (rs:=[2,6]) (by kernel_rfl) (by simp) ?_;refine AllReadyH.cons (sd (some 18) rfl) (fun Kx hK=>?_) (AllReadyH.cons (sd (some 4) rfl) (fun Kx hK=>?_) AllReadyH.nil)
  ·go_simp;refine (hV.o _ hH.o).mono ?_;rintro e w7 ⟨rs,rfl,hM,hb⟩;have hF:=Hd (hH.o.trans (hb.mono hH.o.size));obtain⟨Aq,cq,Ag,cg,Ah,ch,rfl,-⟩:=hM.inv;simp only[Ao,List.length_nil]at hM ⊢;clear hM hb;go_wp2_with fail;refine hK.out _ _ (hG.o _ hF.o) (fun hA=>?_);clear hK Kx;try simp only[Act.put,Az,Ba,Bb]
   refine Ab.s [3,4,5] ?_
   iterate 3 (refine Ab.k (so rfl) hA ?_;try simp only[Act.put,Az,Ba,Bb])
   refine Ab.d ?_;refine wpAnyH_ready (rs:=[6]) (by kernel_rfl) (by simp) ?_;refine AllReadyH.cons (sd (some 4) rfl) (fun Kx hK=>?_) AllReadyH.nil;go_simp;generalize hW:World.alloc w7 (.cells #[.int .i64 0,.string ⟨#[]⟩,.int .i64 0,.slice none 0 0,.slice none 0 0,.slice none 0 0] 26)=w8;have hb:Below w7.heap.size w7 w8:=by rw[<-hW];exact (Below.refl w7.heap.size w7).alloc (Nat.le_refl _) _
   have hx:w8.heap[w7.heap.size]?=some (.cells #[.int .i64 0,.string ⟨#[]⟩,.int .i64 0,.slice none 0 0,.slice none 0 0,.slice none 0 0] 26 (0,0)):=by rw[<-hW];exact heap_alloc_new (w7) _
   clear hW;have hN:=Hd (hF.o.trans (hb.mono hF.o.size));have hO:=Hd hx;clear hb hx;refine hK.out _ _ (hG.o _ hN.o) (fun hA=>?_);clear hK Kx;try simp only[Act.put,Az,Ba,Bb]
   refine wpAnyH_ready (rs:=[7]) (by kernel_rfl) (by simp) ?_;refine AllReadyH.cons (sd none rfl) (fun Kx hK=>?_) AllReadyH.nil;go_simp;have rb:=hO.o;obtain⟨q0,q1,q2,q3,q4,q5,z0,z1,z2,z3,z4,z5⟩:=Hr rb;clear rb;go_simp;have hx:=Bt hO.o (.int .i64 7) (.string Bp) (.int .i64 0) (.slice Aq 0 cq) (.slice Ag 0 cg) (.slice Ah 0 ch);have hL:=Bj hN.o (hF.o).size (.int .i64 7) (.string Bp) (.int .i64 0) (.slice Aq 0 cq) (.slice Ag 0 cg) (.slice Ah 0 ch);generalize hW:(World.setCell (World.setCell (World.setCell (World.setCell (World.setCell (World.setCell w8 ⟨w7.heap.size,0,none⟩ (.int .i64 7)) ⟨w7.heap.size,1,none⟩ (.string Bp)) ⟨w7.heap.size,2,none⟩ (.int .i64 0)) ⟨w7.heap.size,3,none⟩ (.slice Aq 0 cq)) ⟨w7.heap.size,4,none⟩ (.slice Ag 0 cg)) ⟨w7.heap.size,5,none⟩ (.slice Ah 0 ch))=w9 at hx hL;clear hW q0 q1 q2 q3 q4 q5 z0 z1 z2 z3 z4 z5;have hC:=Hd hL;have hP:=Hd hx;clear hx hL;refine hK.out _ _ (hG.o _ hC.o) (fun hA=>?_);clear hK Kx;try simp only[Act.put,Az,Ba,Bb]
   refine Ab.s [8] ?_;refine Ab.k (so rfl) hA ?_;try simp only[Act.put,Az,Ba,Bb]
   refine Ab.d ?_;refine wpAnyH_done (by kernel_rfl) ?_ _;clear hA;go_upto_region 4 with fail
   have hI:Z9 (∀wx,Below w9.heap.size w9 wx->(wx.cell? ⟨w3.heap.size,0,none⟩=some (.int .i64 10)/\wx.cell? ⟨w3.heap.size,1,none⟩=some (.string aB)/\wx.cell? ⟨w3.heap.size,2,none⟩=some (.int .i64 0)/\wx.cell? ⟨w3.heap.size,3,none⟩=some (.slice A3 0 c3)/\wx.cell? ⟨w3.heap.size,4,none⟩=some (.slice B3 0 d3)/\wx.cell? ⟨w3.heap.size,5,none⟩=some (.slice C3 0 e3))/\wx.cell? ⟨w7.heap.size,0,none⟩=some (.int .i64 7)):=Hd fun wx hx=>by
    have h1:=Ay (hC.o.trans (hx.mono hC.o.size)) hR.o kA.o;have h2:=Ay hx (Array.getElem?_eq_some_iff.1 hP.o).1 hP.o;exact⟨⟨Ch h1 0,Ch h1 1,Ch h1 2,Ch h1 3,Ch h1 4,Ch h1 5⟩,Ch h2 0⟩
   have hJ:=Hd fun wx (hx:Below w9.heap.size w9 wx)=>hZ.o.later (hC.o.trans (hx.mono hC.o.size));refine wp_region_held_drew (S:=(fun w'=>(w'.cell? ⟨w3.heap.size,0,none⟩=some (.int .i64 10)/\w'.cell? ⟨w3.heap.size,1,none⟩=some (.string aB)/\w'.cell? ⟨w3.heap.size,2,none⟩=some (.int .i64 0)/\w'.cell? ⟨w3.heap.size,3,none⟩=some (.slice A3 0 c3)/\w'.cell? ⟨w3.heap.size,4,none⟩=some (.slice B3 0 d3)/\w'.cell? ⟨w3.heap.size,5,none⟩=some (.slice C3 0 e3))/\w'.cell? ⟨w7.heap.size,0,none⟩=some (.int .i64 7))) (by kernel_rfl) (hI.o _ (Below.refl _ _).drew) (fun hA=>?_);refine Ab.s [0,1,2,3] ?_
   iterate 4 (refine Ab.k (so rfl) hA ?_;try simp only[Act.put,Az,Ba,Bb])
   refine Ab.d ?_;refine wpAnyH_ready (rs:=[4]) (by kernel_rfl) (by simp) ?_;refine AllReadyH.cons (sd (some 25) rfl) (fun Kx hK=>?_) AllReadyH.nil;go_simp;refine (P6 _ _).mono ?_;rintro e w21 ⟨rfl,hb⟩;have hB:=Hd ((Below.refl w9.heap.size w9).drew.trans (hb.mono (Below.refl w9.heap.size w9).drew.size));clear hb;go_wp2_with fail;refine hK.out _ _ (hI.o _ hB.o) (fun hA=>?_);clear hK Kx;try simp only[Act.put,Az,Ba,Bb]
   refine wpAnyH_ready (rs:=[5]) (by kernel_rfl) (by simp) ?_;refine AllReadyH.cons (sd (some 26) rfl) (fun Kx hK=>?_) AllReadyH.nil;go_simp;refine (Rb (hJ.o _ hB.o) (Jn (fun _=>True) _ aB (by decide))).mono ?_;rintro e w22 ⟨rfl,hb⟩;rw[show (B6 (Cf aB) (Cf aB) == 0)=true from by rw[Dl.2 rfl];rfl];have hD:=Hd (hB.o.trans (hb.mono hB.o.size));clear hb;go_wp2_with fail;refine hK.out _ _ (hI.o _ hD.o) (fun hA=>?_);clear hK Kx;try simp only[Act.put,Az,Ba,Bb]
   refine Ab.s [6,7,8,9,10,11,12,13,14,15] ?_
   iterate 10 (refine Ab.k (so rfl) hA ?_;try simp only[Act.put,Az,Ba,Bb])
   refine Ab.d ?_;refine wpAnyH_take (i:=16) (v:=?_) (sd (some 0) rfl) (by kernel_rfl) (by kernel_rfl) (by kernel_rfl) (fun _ _ _ h=>h) (Or.inl ⟨by rfl,?_⟩) hA ?_;rotate_left
   ·intro w' hX
    (try dsimp only at hX)
    go_simp;try with_reducible rfl
   try simp only[Act.put,List.setIfInBounds_toArray,List.set_cons_zero]
   refine wpAnyH_done (by kernel_rfl) ?_ _;clear hA;go_wp2_with fail;go_ret
   exact⟨rfl,HBZ.o.trans ((hC.o.trans (hD.o.mono hC.o.size)).mono HBZ.o.size)⟩
  ·go_simp;generalize hW:World.alloc w6 (.cells #[.int .i64 0,.string ⟨#[]⟩,.int .i64 0,.slice none 0 0,.slice none 0 0,.slice none 0 0] 26)=w7;have hb:Below w6.heap.size w6 w7:=by rw[<-hW];exact (Below.refl w6.heap.size w6).alloc (Nat.le_refl _) _
   have hx:w7.heap[w6.heap.size]?=some (.cells #[.int .i64 0,.string ⟨#[]⟩,.int .i64 0,.slice none 0 0,.slice none 0 0,.slice none 0 0] 26 (0,0)):=by rw[<-hW];exact heap_alloc_new (w6) _
   clear hW;have hF:=Hd (hH.o.trans (hb.mono hH.o.size));have hU:=Hd hx;clear hb hx;refine hK.out _ _ (hG.o _ hF.o) (fun hA=>?_);clear hK Kx;try simp only[Act.put,Az,Ba,Bb]
   refine wpAnyH_ready (rs:=[2]) (by kernel_rfl) (by simp) ?_;refine AllReadyH.cons (sd (some 18) rfl) (fun Kx hK=>?_) AllReadyH.nil;go_simp;refine (hV.o _ hF.o).mono ?_;rintro e w8 ⟨rs,rfl,hM,hb⟩;have hN:=Hd (hF.o.trans (hb.mono hF.o.size));have hO:=Hd (Ay hb (Array.getElem?_eq_some_iff.1 hU.o).1 hU.o);obtain⟨Aq,cq,Ag,cg,Ah,ch,rfl,-⟩:=hM.inv;simp only[Ao,List.length_nil]at hM ⊢;clear hM hb;go_wp2_with fail;refine hK.out _ _ (hG.o _ hN.o) (fun hA=>?_);clear hK Kx;try simp only[Act.put,Az,Ba,Bb]
   refine Ab.s [3,4,5] ?_
   iterate 3 (refine Ab.k (so rfl) hA ?_;try simp only[Act.put,Az,Ba,Bb])
   refine Ab.d ?_;refine wpAnyH_ready (rs:=[7]) (by kernel_rfl) (by simp) ?_;refine AllReadyH.cons (sd none rfl) (fun Kx hK=>?_) AllReadyH.nil;go_simp;have rb:=hO.o;obtain⟨q0,q1,q2,q3,q4,q5,z0,z1,z2,z3,z4,z5⟩:=Hr rb;clear rb;go_simp;have hx:=Bt hO.o (.int .i64 7) (.string Bp) (.int .i64 0) (.slice Aq 0 cq) (.slice Ag 0 cg) (.slice Ah 0 ch);have hL:=Bj hN.o (hH.o).size (.int .i64 7) (.string Bp) (.int .i64 0) (.slice Aq 0 cq) (.slice Ag 0 cg) (.slice Ah 0 ch);generalize hW:(World.setCell (World.setCell (World.setCell (World.setCell (World.setCell (World.setCell w8 ⟨w6.heap.size,0,none⟩ (.int .i64 7)) ⟨w6.heap.size,1,none⟩ (.string Bp)) ⟨w6.heap.size,2,none⟩ (.int .i64 0)) ⟨w6.heap.size,3,none⟩ (.slice Aq 0 cq)) ⟨w6.heap.size,4,none⟩ (.slice Ag 0 cg)) ⟨w6.heap.size,5,none⟩ (.slice Ah 0 ch))=w9 at hx hL;clear hW q0 q1 q2 q3 q4 q5 z0 z1 z2 z3 z4 z5;have hC:=Hd hL;have hP:=Hd hx;clear hx hL;refine hK.out _ _ (hG.o _ hC.o) (fun hA=>?_);clear hK Kx;try simp only[Act.put,Az,Ba,Bb]
   refine Ab.s [8] ?_;refine Ab.k (so rfl) hA ?_;try simp only[Act.put,Az,Ba,Bb]
   refine Ab.d ?_;refine wpAnyH_done (by kernel_rfl) ?_ _;clear hA;go_upto_region 4 with fail
   have hI:Z9 (∀wx,Below w9.heap.size w9 wx->(wx.cell? ⟨w3.heap.size,0,none⟩=some (.int .i64 10)/\wx.cell? ⟨w3.heap.size,1,none⟩=some (.string aB)/\wx.cell? ⟨w3.heap.size,2,none⟩=some (.int .i64 0)/\wx.cell? ⟨w3.heap.size,3,none⟩=some (.slice A3 0 c3)/\wx.cell? ⟨w3.heap.size,4,none⟩=some (.slice B3 0 d3)/\wx.cell? ⟨w3.heap.size,5,none⟩=some (.slice C3 0 e3))/\wx.cell? ⟨w6.heap.size,0,none⟩=some (.int .i64 7)):=Hd fun wx hx=>by
    have h1:=Ay (hC.o.trans (hx.mono hC.o.size)) hR.o kA.o;have h2:=Ay hx (Array.getElem?_eq_some_iff.1 hP.o).1 hP.o;exact⟨⟨Ch h1 0,Ch h1 1,Ch h1 2,Ch h1 3,Ch h1 4,Ch h1 5⟩,Ch h2 0⟩
   have hJ:=Hd fun wx (hx:Below w9.heap.size w9 wx)=>hZ.o.later (hC.o.trans (hx.mono hC.o.size));refine wp_region_held_drew (S:=(fun w'=>(w'.cell? ⟨w3.heap.size,0,none⟩=some (.int .i64 10)/\w'.cell? ⟨w3.heap.size,1,none⟩=some (.string aB)/\w'.cell? ⟨w3.heap.size,2,none⟩=some (.int .i64 0)/\w'.cell? ⟨w3.heap.size,3,none⟩=some (.slice A3 0 c3)/\w'.cell? ⟨w3.heap.size,4,none⟩=some (.slice B3 0 d3)/\w'.cell? ⟨w3.heap.size,5,none⟩=some (.slice C3 0 e3))/\w'.cell? ⟨w6.heap.size,0,none⟩=some (.int .i64 7))) (by kernel_rfl) (hI.o _ (Below.refl _ _).drew) (fun hA=>?_);refine Ab.s [0,1,2,3] ?_
   iterate 4 (refine Ab.k (so rfl) hA ?_;try simp only[Act.put,Az,Ba,Bb])
   refine Ab.d ?_;refine wpAnyH_ready (rs:=[4]) (by kernel_rfl) (by simp) ?_;refine AllReadyH.cons (sd (some 25) rfl) (fun Kx hK=>?_) AllReadyH.nil;go_simp;refine (P6 _ _).mono ?_;rintro e w21 ⟨rfl,hb⟩;have hB:=Hd ((Below.refl w9.heap.size w9).drew.trans (hb.mono (Below.refl w9.heap.size w9).drew.size));clear hb;go_wp2_with fail;refine hK.out _ _ (hI.o _ hB.o) (fun hA=>?_);clear hK Kx;try simp only[Act.put,Az,Ba,Bb]
   refine wpAnyH_ready (rs:=[5]) (by kernel_rfl) (by simp) ?_;refine AllReadyH.cons (sd (some 26) rfl) (fun Kx hK=>?_) AllReadyH.nil;go_simp;refine (Rb (hJ.o _ hB.o) (Jn (fun _=>True) _ aB (by decide))).mono ?_;rintro e w22 ⟨rfl,hb⟩;rw[show (B6 (Cf aB) (Cf aB) == 0)=true from by rw[Dl.2 rfl];rfl];have hD:=Hd (hB.o.trans (hb.mono hB.o.size));clear hb;go_wp2_with fail;refine hK.out _ _ (hI.o _ hD.o) (fun hA=>?_);clear hK Kx;try simp only[Act.put,Az,Ba,Bb]
   refine Ab.s [6,7,8,9,10,11,12,13,14,15] ?_
   iterate 10 (refine Ab.k (so rfl) hA ?_;try simp only[Act.put,Az,Ba,Bb])
   refine Ab.d ?_;refine wpAnyH_take (i:=16) (v:=?_) (sd (some 0) rfl) (by kernel_rfl) (by kernel_rfl) (by kernel_rfl) (fun _ _ _ h=>h) (Or.inl ⟨by rfl,?_⟩) hA ?_;rotate_left
   ·intro w' hX
    (try dsimp only at hX)
    go_simp;try with_reducible rfl
   try simp only[Act.put,List.setIfInBounds_toArray,List.set_cons_zero]
   refine wpAnyH_done (by kernel_rfl) ?_ _;clear hA;go_wp2_with fail;go_ret
   exact⟨rfl,HBZ.o.trans ((hC.o.trans (hD.o.mono hC.o.size)).mono HBZ.o.size)⟩
 ·go_simp;generalize hW:World.drew (World.alloc w4 (.cells #[.int .i64 0,.string ⟨#[]⟩,.int .i64 0,.slice none 0 0,.slice none 0 0,.slice none 0 0] 26))=w6;have hb:Below w4.drew.heap.size w4.drew w6:=by rw[<-hW];exact (Below.refl w4.drew.heap.size w4.drew).alloc (Nat.le_refl _) _
  have hx:w6.heap[w4.heap.size]?=some (.cells #[.int .i64 0,.string ⟨#[]⟩,.int .i64 0,.slice none 0 0,.slice none 0 0,.slice none 0 0] 26 (0,0)):=by rw[<-hW];exact heap_alloc_new (w4.drew) _
  clear hW;have hH:=Hd ((Below.refl w4.heap.size w4).drew.trans (hb.mono (Below.refl w4.heap.size w4).drew.size));have kG:=Hd hx;clear hb hx;refine hK.out _ _ (hG.o _ hH.o) (fun hA=>?_);clear hK Kx;try simp only[Act.put,Az,Ba,Bb]
  refine wpAnyH_ready (rs:=[1]) (by kernel_rfl) (by simp) ?_;refine AllReadyH.cons (sd (some 17) rfl) (fun Kx hK=>?_) AllReadyH.nil;go_simp;refine (P6 _ _).mono ?_;rintro e w7 ⟨rfl,hb⟩;have hF:=Hd (hH.o.trans (hb.mono hH.o.size));have hU:=Hd (Ay hb (Array.getElem?_eq_some_iff.1 kG.o).1 kG.o);clear hb;go_wp2_with fail;refine hK.out _ _ (hG.o _ hF.o) (fun hA=>?_);clear hK Kx;try simp only[Act.put,Az,Ba,Bb]
  refine wpAnyH_ready (rs:=[2]) (by kernel_rfl) (by simp) ?_;refine AllReadyH.cons (sd (some 18) rfl) (fun Kx hK=>?_) AllReadyH.nil;go_simp;refine (hV.o _ hF.o).mono ?_;rintro e w8 ⟨rs,rfl,hM,hb⟩;have hN:=Hd (hF.o.trans (hb.mono hF.o.size));have hO:=Hd (Ay hb (Array.getElem?_eq_some_iff.1 hU.o).1 hU.o);obtain⟨Aq,cq,Ag,cg,Ah,ch,rfl,-⟩:=hM.inv;simp only[Ao,List.length_nil]at hM ⊢;clear hM hb;go_wp2_with fail;refine hK.out _ _ (hG.o _ hN.o) (fun hA=>?_);clear hK Kx;try simp only[Act.put,Az,Ba,Bb]
  refine Ab.s [3,4,5] ?_
  iterate 3 (refine Ab.k (so rfl) hA ?_;try simp only[Act.put,Az,Ba,Bb])
  refine Ab.d ?_;refine wpAnyH_ready (rs:=[7]) (by kernel_rfl) (by simp) ?_;refine AllReadyH.cons (sd none rfl) (fun Kx hK=>?_) AllReadyH.nil;go_simp;have rb:=hO.o;obtain⟨q0,q1,q2,q3,q4,q5,z0,z1,z2,z3,z4,z5⟩:=Hr rb;clear rb;go_simp;have hx:=Bt hO.o (.int .i64 7) (.string Bp) (.int .i64 0) (.slice Aq 0 cq) (.slice Ag 0 cg) (.slice Ah 0 ch);have hL:=Bj hN.o (Nat.le_refl _) (.int .i64 7) (.string Bp) (.int .i64 0) (.slice Aq 0 cq) (.slice Ag 0 cg) (.slice Ah 0 ch);generalize hW:(World.setCell (World.setCell (World.setCell (World.setCell (World.setCell (World.setCell w8 ⟨w4.heap.size,0,none⟩ (.int .i64 7)) ⟨w4.heap.size,1,none⟩ (.string Bp)) ⟨w4.heap.size,2,none⟩ (.int .i64 0)) ⟨w4.heap.size,3,none⟩ (.slice Aq 0 cq)) ⟨w4.heap.size,4,none⟩ (.slice Ag 0 cg)) ⟨w4.heap.size,5,none⟩ (.slice Ah 0 ch))=w9 at hx hL;clear hW q0 q1 q2 q3 q4 q5 z0 z1 z2 z3 z4 z5;have hC:=Hd hL;have hP:=Hd hx;clear hx hL;refine hK.out _ _ (hG.o _ hC.o) (fun hA=>?_);clear hK Kx;try simp only[Act.put,Az,Ba,Bb]
  refine Ab.s [8] ?_;refine Ab.k (so rfl) hA ?_;try simp only[Act.put,Az,Ba,Bb]
  refine Ab.d ?_;refine wpAnyH_done (by kernel_rfl) ?_ _;clear hA;go_upto_region 4 with fail
  have hI:Z9 (∀wx,Below w9.heap.size w9 wx->(wx.cell? ⟨w3.heap.size,0,none⟩=some (.int .i64 10)/\wx.cell? ⟨w3.heap.size,1,none⟩=some (.string aB)/\wx.cell? ⟨w3.heap.size,2,none⟩=some (.int .i64 0)/\wx.cell? ⟨w3.heap.size,3,none⟩=some (.slice A3 0 c3)/\wx.cell? ⟨w3.heap.size,4,none⟩=some (.slice B3 0 d3)/\wx.cell? ⟨w3.heap.size,5,none⟩=some (.slice C3 0 e3))/\wx.cell? ⟨w4.heap.size,0,none⟩=some (.int .i64 7)):=Hd fun wx hx=>by
   have h1:=Ay (hC.o.trans (hx.mono hC.o.size)) hR.o kA.o;have h2:=Ay hx (Array.getElem?_eq_some_iff.1 hP.o).1 hP.o;exact⟨⟨Ch h1 0,Ch h1 1,Ch h1 2,Ch h1 3,Ch h1 4,Ch h1 5⟩,Ch h2 0⟩
  have hJ:=Hd fun wx (hx:Below w9.heap.size w9 wx)=>hZ.o.later (hC.o.trans (hx.mono hC.o.size));refine wp_region_held_drew (S:=(fun w'=>(w'.cell? ⟨w3.heap.size,0,none⟩=some (.int .i64 10)/\w'.cell? ⟨w3.heap.size,1,none⟩=some (.string aB)/\w'.cell? ⟨w3.heap.size,2,none⟩=some (.int .i64 0)/\w'.cell? ⟨w3.heap.size,3,none⟩=some (.slice A3 0 c3)/\w'.cell? ⟨w3.heap.size,4,none⟩=some (.slice B3 0 d3)/\w'.cell? ⟨w3.heap.size,5,none⟩=some (.slice C3 0 e3))/\w'.cell? ⟨w4.heap.size,0,none⟩=some (.int .i64 7))) (by kernel_rfl) (hI.o _ (Below.refl _ _).drew) (fun hA=>?_);refine Ab.s [0,1,2,3] ?_
  iterate 4 (refine Ab.k (so rfl) hA ?_;try simp only[Act.put,Az,Ba,Bb])
  refine Ab.d ?_;refine wpAnyH_ready (rs:=[4]) (by kernel_rfl) (by simp) ?_;refine AllReadyH.cons (sd (some 25) rfl) (fun Kx hK=>?_) AllReadyH.nil;go_simp;refine (P6 _ _).mono ?_;rintro e w21 ⟨rfl,hb⟩;have hB:=Hd ((Below.refl w9.heap.size w9).drew.trans (hb.mono (Below.refl w9.heap.size w9).drew.size));clear hb;go_wp2_with fail;refine hK.out _ _ (hI.o _ hB.o) (fun hA=>?_);clear hK Kx;try simp only[Act.put,Az,Ba,Bb]
  refine wpAnyH_ready (rs:=[5]) (by kernel_rfl) (by simp) ?_;refine AllReadyH.cons (sd (some 26) rfl) (fun Kx hK=>?_) AllReadyH.nil;go_simp;refine (Rb (hJ.o _ hB.o) (Jn (fun _=>True) _ aB (by decide))).mono ?_;rintro e w22 ⟨rfl,hb⟩;rw[show (B6 (Cf aB) (Cf aB) == 0)=true from by rw[Dl.2 rfl];rfl];have hD:=Hd (hB.o.trans (hb.mono hB.o.size));clear hb;go_wp2_with fail;refine hK.out _ _ (hI.o _ hD.o) (fun hA=>?_);clear hK Kx;try simp only[Act.put,Az,Ba,Bb]
  refine Ab.s [6,7,8,9,10,11,12,13,14,15] ?_
  iterate 10 (refine Ab.k (so rfl) hA ?_;try simp only[Act.put,Az,Ba,Bb])
  refine Ab.d ?_;refine wpAnyH_take (i:=16) (v:=?_) (sd (some 0) rfl) (by kernel_rfl) (by kernel_rfl) (by kernel_rfl) (fun _ _ _ h=>h) (Or.inl ⟨by rfl,?_⟩) hA ?_;rotate_left
  ·intro w' hX
   (try dsimp only at hX)
   go_simp;try with_reducible rfl
  try simp only[Act.put,List.setIfInBounds_toArray,List.set_cons_zero]
  refine wpAnyH_done (by kernel_rfl) ?_ _;clear hA;go_wp2_with fail;go_ret
  exact⟨rfl,HBZ.o.trans ((hC.o.trans (hD.o.mono hC.o.size)).mono HBZ.o.size)⟩
theorem Wm {k:Int}(h:k≠14):(Ak k).f=false:=by
 unfold Ak
 repeat' split
 all_goals first|rfl|(exfalso;omega)
theorem Nc {k:Int}(h:k≠13):(Ak k).v=false:=by
 unfold Ak
 repeat' split
 all_goals first|rfl|(exfalso;omega)
theorem Jdy (k:Int) (t:Z8) (n:Int) (ps:List Ty) (fs:Bv) (vs:Bw) (hp:∀p∈ps,Aj p) (hf:∀f∈fs,Aj f.2.2) (hv:∀v∈vs,∀b∈v.2,Aj b) (hB:k≠14) (hC:0<fs.length):Aj (.mk k t n ps fs vs):=by
 refine Bc k t n ps fs vs hp hf hv fun K w A c A' c' A'' c'' w1 h=>?_;obtain⟨HXC,KAll,KPl,KNm,KOb,KBi,KOv,HREP,HCN,HBZ,HB,HS1,HX0,HW1,hlp,hlf,hlv⟩:=h;clear hp hf hv;have hA:Z9 (Ai (.mk k t n ps fs vs)=false):=Hd (by
  rw[Aw];unfold Ar;rw[Wm hB];have h0:decide (0<fs.length)=true:=decide_eq_true hC;simp[h0])
 have g1:(k == 14)=false:=by simpa using hB
 have f1:decide ((0:Int)<(fs.length:Int))=true:=decide_eq_true (by omega);have f2:decide (0<fs.length)=true:=decide_eq_true (by omega);clear hC;go_enter Tryz.func38,Tryz.ntmps38;go_upto_region 1 with fail
 rw[<-HW1.o];obtain⟨x0,x1,x2,x3,x4,x5⟩:=HXC.o _ HB.o;go_wp2_with fail;go_ret
 exact⟨by rw[hA.o];rfl,HBZ.o.trans (HB.o.mono HBZ.o.size)⟩
theorem Jd0 (k:Int) (t:Z8) (n:Int) (ps:List Ty) (fs:Bv) (vs:Bw) (hp:∀p∈ps,Aj p) (hf:∀f∈fs,Aj f.2.2) (hv:∀v∈vs,∀b∈v.2,Aj b) (hD:k≠14) (hE:fs.length=0) (hB:k≠13) (hC:0<vs.length):Aj (.mk k t n ps fs vs):=by
 refine Bc k t n ps fs vs hp hf hv fun K w A c A' c' A'' c'' w1 h=>?_;obtain⟨HXC,KAll,KPl,KNm,KOb,KBi,KOv,HREP,HCN,HBZ,HB,HS1,HX0,HW1,hlp,hlf,hlv⟩:=h;clear hp hf hv;have hA:Z9 (Ai (.mk k t n ps fs vs)=false):=Hd (by
  rw[Aw];unfold Ar;rw[Nc hB];have h0:decide (0<vs.length)=true:=decide_eq_true hC;simp[h0])
 have g1:(k == 14)=false:=by simpa using hD
 have f1:decide ((0:Int)<(fs.length:Int))=false:=decide_eq_false (by omega);have f2:decide (0<fs.length)=false:=decide_eq_false (by omega);have g2:(k == 13)=false:=by simpa using hB
 have f3:decide ((0:Int)<(vs.length:Int))=true:=decide_eq_true (by omega);have f4:decide (0<vs.length)=true:=decide_eq_true (by omega);clear hE hC;go_enter Tryz.func38,Tryz.ntmps38;go_upto_region 1 with fail
 rw[<-HW1.o];obtain⟨x0,x1,x2,x3,x4,x5⟩:=HXC.o _ HB.o;go_wp2_with fail;go_ret
 exact⟨by rw[hA.o];rfl,HBZ.o.trans (HB.o.mono HBZ.o.size)⟩
theorem X7 (t:Z8) (n:Int) (ps:List Ty) (fs:Bv) (vs:Bw) (hp:∀p∈ps,Aj p) (hf:∀f∈fs,Aj f.2.2) (hv:∀v∈vs,∀b∈v.2,Aj b) (hB:0<vs.length):Aj (.mk 14 t n ps fs vs):=by
 refine Bc 14 t n ps fs vs hp hf hv fun K w A c A' c' A'' c'' w1 h=>?_;obtain⟨HXC,KAll,KPl,KNm,KOb,KBi,KOv,HREP,HCN,HBZ,HB,HS1,HX0,HW1,hlp,hlf,hlv⟩:=h;clear hp hf hv;have hA:Z9 (Ai (.mk 14 t n ps fs vs)=false):=Hd (by
  have hC:(14:Int)≠13:=by decide
  rw[Aw];unfold Ar;rw[Nc hC];have h0:decide (0<vs.length)=true:=decide_eq_true hB;simp[h0])
 have f3:decide ((0:Int)<(vs.length:Int))=true:=decide_eq_true (by omega);have f4:decide (0<vs.length)=true:=decide_eq_true (by omega);clear hB;go_enter Tryz.func38,Tryz.ntmps38;go_upto_region 1 with fail
 rw[<-HW1.o];obtain⟨x0,x1,x2,x3,x4,x5⟩:=HXC.o _ HB.o;go_wp2_with fail;go_ret
 exact⟨by rw[hA.o];rfl,HBZ.o.trans (HB.o.mono HBZ.o.size)⟩
theorem Jd1 (k:Int) (t:Z8) (n:Int) (ps:List Ty) (fs:Bv) (vs:Bw) (hp:∀p∈ps,Aj p) (hf:∀f∈fs,Aj f.2.2) (hv:∀v∈vs,∀b∈v.2,Aj b) (hD:k≠14) (hE:fs.length=0) (hC:k≠13) (hF:vs.length=0) (hB:ps.all Ai=false):Aj (.mk k t n ps fs vs):=by
 refine Bc k t n ps fs vs hp hf hv fun K w A c A' c' A'' c'' w1 h=>?_;obtain⟨HXC,KAll,KPl,KNm,KOb,KBi,KOv,HREP,HCN,HBZ,HB,HS1,HX0,HW1,hlp,hlf,hlv⟩:=h;clear hp hf hv;have hA:Z9 (Ai (.mk k t n ps fs vs)=false):=Hd (by
  rw[Aw,hB,Bool.and_false])
 have g1:(k == 14)=false:=by simpa using hD
 have f1:decide ((0:Int)<(fs.length:Int))=false:=decide_eq_false (by omega);have f2:decide (0<fs.length)=false:=decide_eq_false (by omega);have g2:(k == 13)=false:=by simpa using hC
 have f3:decide ((0:Int)<(vs.length:Int))=false:=decide_eq_false (by omega);have f4:decide (0<vs.length)=false:=decide_eq_false (by omega);rw[hB]at KAll;clear hE hF hB;go_enter Tryz.func38,Tryz.ntmps38;go_upto_region 1 with fail
 rw[<-HW1.o];obtain⟨x0,x1,x2,x3,x4,x5⟩:=HXC.o _ HB.o;go_wp2_with fail;refine (KAll.o _ HB.o).mono ?_;rintro e w2 ⟨rfl,hb⟩;have HB1:=Hd (HB.o.trans (hb.mono HB.o.size));clear hb;clear x0 x1 x2 x3 x4 x5;obtain⟨x0,x1,x2,x3,x4,x5⟩:=HXC.o _ HB1.o;go_wp2_with fail;go_ret
 exact⟨by rw[hA.o];rfl,HBZ.o.trans (HB1.o.mono HBZ.o.size)⟩
theorem Yb (t:Z8) (n:Int) (ps:List Ty) (fs:Bv) (vs:Bw) (hp:∀p∈ps,Aj p) (hf:∀f∈fs,Aj f.2.2) (hv:∀v∈vs,∀b∈v.2,Aj b) (hC:vs.length=0) (hB:ps.all Ai=false):Aj (.mk 14 t n ps fs vs):=by
 refine Bc 14 t n ps fs vs hp hf hv fun K w A c A' c' A'' c'' w1 h=>?_;obtain⟨HXC,KAll,KPl,KNm,KOb,KBi,KOv,HREP,HCN,HBZ,HB,HS1,HX0,HW1,hlp,hlf,hlv⟩:=h;clear hp hf hv;have hA:Z9 (Ai (.mk 14 t n ps fs vs)=false):=Hd (by
  rw[Aw,hB,Bool.and_false])
 have f3:decide ((0:Int)<(vs.length:Int))=false:=decide_eq_false (by omega);have f4:decide (0<vs.length)=false:=decide_eq_false (by omega);rw[hB]at KAll;clear hC hB;go_enter Tryz.func38,Tryz.ntmps38;go_upto_region 1 with fail
 rw[<-HW1.o];obtain⟨x0,x1,x2,x3,x4,x5⟩:=HXC.o _ HB.o;go_wp2_with fail;refine (KAll.o _ HB.o).mono ?_;rintro e w2 ⟨rfl,hb⟩;have HB1:=Hd (HB.o.trans (hb.mono HB.o.size));clear hb;clear x0 x1 x2 x3 x4 x5;obtain⟨x0,x1,x2,x3,x4,x5⟩:=HXC.o _ HB1.o;go_wp2_with fail;go_ret
 exact⟨by rw[hA.o];rfl,HBZ.o.trans (HB1.o.mono HBZ.o.size)⟩
theorem Ya (t:Z8) (n:Int) (ps:List Ty) (fs:Bv) (vs:Bw) (hp:∀p∈ps,Aj p) (hf:∀f∈fs,Aj f.2.2) (hv:∀v∈vs,∀b∈v.2,Aj b) (hC:fs.length=0) (hB:ps.all Ai=false):Aj (.mk 13 t n ps fs vs):=by
 refine Bc 13 t n ps fs vs hp hf hv fun K w A c A' c' A'' c'' w1 h=>?_;obtain⟨HXC,KAll,KPl,KNm,KOb,KBi,KOv,HREP,HCN,HBZ,HB,HS1,HX0,HW1,hlp,hlf,hlv⟩:=h;clear hp hf hv;have hA:Z9 (Ai (.mk 13 t n ps fs vs)=false):=Hd (by
  rw[Aw,hB,Bool.and_false])
 have f1:decide ((0:Int)<(fs.length:Int))=false:=decide_eq_false (by omega);have f2:decide (0<fs.length)=false:=decide_eq_false (by omega);rw[hB]at KAll;clear hC hB;go_enter Tryz.func38,Tryz.ntmps38;go_upto_region 1 with fail
 rw[<-HW1.o];obtain⟨x0,x1,x2,x3,x4,x5⟩:=HXC.o _ HB.o;go_wp2_with fail;refine (KAll.o _ HB.o).mono ?_;rintro e w2 ⟨rfl,hb⟩;have HB1:=Hd (HB.o.trans (hb.mono HB.o.size));clear hb;clear x0 x1 x2 x3 x4 x5;obtain⟨x0,x1,x2,x3,x4,x5⟩:=HXC.o _ HB1.o;go_wp2_with fail;go_ret
 exact⟨by rw[hA.o];rfl,HBZ.o.trans (HB1.o.mono HBZ.o.size)⟩
theorem Jdz (k:Int) (t:Z8) (n:Int) (ps:List Ty) (fs:Bv) (vs:Bw) (hp:∀p∈ps,Aj p) (hf:∀f∈fs,Aj f.2.2) (hv:∀v∈vs,∀b∈v.2,Aj b) (h1:k≠1) (h2:k≠2) (h3:k≠3) (h4:k≠4) (h5:k≠5) (h6:k≠6) (h7:k≠7) (h8:k≠8) (h9:k≠9) (hC:k≠10) (hD:k≠11) (hE:k≠12) (hF:k≠13) (hG:k≠14) (hH:k≠15) (hI:k≠16) (hJ:k≠17) (hK:k≠18) (hL:k≠19) (hM:k≠20) (hN:k≠21) (hO:k≠22) (hP:k≠23) (hQ:fs.length=0) (hR:vs.length=0) (hB:ps.all Ai=true):Aj (.mk k t n ps fs vs):=by
 refine Bc k t n ps fs vs hp hf hv fun K w A c A' c' A'' c'' w1 h=>?_;obtain⟨HXC,KAll,KPl,KNm,KOb,KBi,KOv,HREP,HCN,HBZ,HB,HS1,HX0,HW1,hlp,hlf,hlv⟩:=h;clear hp hf hv;have hA:Z9 (Ai (.mk k t n ps fs vs)=false):=Hd (by
  rw[Aw];have hs:(Ak k).known=false:=by
   unfold Ak;rw[if_neg (by omega),if_neg (by omega),if_neg (by omega),if_neg (by omega),if_neg (by omega),if_neg (by omega),if_neg (by omega),if_neg (by omega),if_neg (by omega),if_neg (by omega),if_neg (by omega),if_neg (by omega)]
  rw[hs];simp)
 have g1:(k == 1)=false:=by simpa using h1
 have g2:(k == 2)=false:=by simpa using h2
 have g3:(k == 3)=false:=by simpa using h3
 have g4:(k == 4)=false:=by simpa using h4
 have g5:(k == 5)=false:=by simpa using h5
 have g6:(k == 6)=false:=by simpa using h6
 have g7:(k == 7)=false:=by simpa using h7
 have g8:(k == 8)=false:=by simpa using h8
 have g9:(k == 9)=false:=by simpa using h9
 have g10:(k == 10)=false:=by simpa using hC
 have g11:(k == 11)=false:=by simpa using hD
 have g12:(k == 12)=false:=by simpa using hE
 have g13:(k == 13)=false:=by simpa using hF
 have g14:(k == 14)=false:=by simpa using hG
 have g15:(k == 15)=false:=by simpa using hH
 have g16:(k == 16)=false:=by simpa using hI
 have g17:(k == 17)=false:=by simpa using hJ
 have g18:(k == 18)=false:=by simpa using hK
 have g19:(k == 19)=false:=by simpa using hL
 have g20:(k == 20)=false:=by simpa using hM
 have g21:(k == 21)=false:=by simpa using hN
 have g22:(k == 22)=false:=by simpa using hO
 have g23:(k == 23)=false:=by simpa using hP
 obtain⟨f1,f2,f3,f4⟩:=Gl (m:=fs.length) (n:=vs.length) (by omega) (by omega);rw[hB]at KAll;clear hQ hR hB;go_enter Tryz.func38,Tryz.ntmps38;go_upto_region 1 with fail
 rw[<-HW1.o];obtain⟨x0,x1,x2,x3,x4,x5⟩:=HXC.o _ HB.o;go_wp2_with fail;refine (KAll.o _ HB.o).mono ?_;rintro e w2 ⟨rfl,hb⟩;have HB1:=Hd (HB.o.trans (hb.mono HB.o.size));clear hb;clear x0 x1 x2 x3 x4 x5;obtain⟨x0,x1,x2,x3,x4,x5⟩:=HXC.o _ HB1.o;go_wp2_with fail;go_ret
 exact⟨by rw[hA.o];rfl,HBZ.o.trans (HB1.o.mono HBZ.o.size)⟩
