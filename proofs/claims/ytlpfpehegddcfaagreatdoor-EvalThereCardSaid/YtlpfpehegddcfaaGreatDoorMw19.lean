import Derived.Test.YtlpfpehegddcfaaGreatDoorMw18
namespace Go.Proofs.YtlpfpehegddcfaaGreatDoor
set_option maxRecDepth 100000
set_option maxHeartbeats 64000000
open Go.RowKit
theorem O8 {B:Nat}{w:World}{v:Value}{l:List Z8}{s:Z8}{gg:Nat}{o:Oper}{a:Act}{Kc:Act->World->Prop}{Q:Exit->Act->World->Prop}(sl x:Operand)
  (ho:o.op=.call { callee:=.builtin .append,args:=#[sl,x],argTypes:=#[46,46] }) (hs:a.eval sl=v) (hx:a.eval x=.slice (some ⟨gg,0,none⟩) 1 1)
  (hO:D5 B w v l) (hc:w.cell? ⟨gg,0,none⟩=some (.string s)) (hB:B<=w.heap.size) (hG:l.length+1<=1099511627776)
  (h:∀v' w',D5 B w' v' (l++[s])->w.grownBy w' v.ownBlock->Kc (a.put o.dst v') w') :
  Oper.wp Tryz.prog o a w Kc Q:=by
 obtain⟨i0,hA,hD,hE,hF⟩:=Ec Ig;refine B5 sl x 46 ho B 9 i0 (.string ⟨#[]⟩) 1 16 Tryz.underlying46 hA hD hE hF rfl (by decide) v l.length _ hs hO ⟨gg,0,none⟩ 1 1 [.string s] hx rfl (fun j u hj=>?_) (fun u hu=>?_) (by unfold maxLen;omega) (by omega) hB ?_
 ·have hC:j=0:=by have:=(List.getElem?_eq_some_iff.1 hj).1;simp at this;exact this
  subst hC;obtain rfl:Value.string s=u:=by simpa using hj
  have e:((⟨gg,0,none⟩:Addr).add 0)=⟨gg,0,none⟩:=rfl;rw[e];exact hc
 ·simp only[List.mem_cons,List.not_mem_nil,or_false]at hu;rw[hu];rfl
 ·intro v' w' g1 g2 _ _;refine h v' w' ?_ g2;unfold D5;rw[List.length_append,List.map_append];exact g1
theorem Jff {W:World}{b:Nat}{T:TypeId}{x0 x1:Value}(h:W.heap[b]?=some (.cells #[x0,x1] T (0,0))) (y0 y1:Value):((W.setCell ⟨b,0,none⟩ y0).setCell ⟨b,1,none⟩ y1).heap[b]?=some (.cells #[y0,y1] T (0,0)):=
 Go.heap_setCell_same _ b 1 _ _ y1 (Go.heap_setCell_same W b 0 _ _ y0 h)
def Vk (w:World) (q:Option (List Z8)):Ending->World->Prop:=fun e w'=>(match q with
 | none=>e=.returned (.agg #[.bool true,.slice none 0 0])
 | some l=>∃A c,e=.returned (.agg #[.bool false,.slice A l.length c])/\Cm w' l A)/\Below w.heap.size w w'
theorem Jee {K:Nat->Prop}{w:World}(s:Z8) (n:Int) (ps:List Ty) (fs:Bv) (vs:Bw) {cs:List Value}(hr:An K w (.mk 14 s n ps fs vs) cs) (hn:fs.length<=1000000) :
  Calls Tryz.prog 91 #[.agg cs.toArray] w (Vk w (some (fs.map fun f=>f.1))):=by
 obtain⟨A,c,A',c',A'',c'',rfl,-,-,hF,-⟩:=hr.inv;simp only[Ao]at hr ⊢;obtain⟨w1,hL⟩:∃x,x=(w.alloc (.cells #[.int .i64 14,.string s,.int .i64 n,.slice A ps.length c,.slice A' fs.length c',.slice A'' vs.length c''] 26)).alloc (.cells #[.bool false,.slice none 0 0] 132):=⟨_,rfl⟩;obtain⟨w2,hP⟩:∃x,x=w1.alloc (.cells #[.bool false,.slice none 0 0] 132):=⟨_,rfl⟩;obtain⟨g,hg⟩:∃g,g=w.heap.size+1:=⟨_,rfl⟩;obtain⟨g3,kI⟩:∃g,g=w.heap.size+2:=⟨_,rfl⟩;have kX:Below w.heap.size w w1:=by rw[hL];exact ((Below.refl _ _).alloc (Nat.le_refl _) _).alloc (by simp) _
 have hV:w1.heap.size=w.heap.size+2:=by rw[hL];simp
 have kF:Below w1.heap.size w1 w2:=by rw[hP];exact (Below.refl _ _).alloc (Nat.le_refl _) _
 have aC:w2.heap.size=w.heap.size+3:=by rw[hP,World.size_alloc,hV]
 have kM:w1.heap[w.heap.size]?=some (.cells #[.int .i64 14,.string s,.int .i64 n,.slice A ps.length c,.slice A' fs.length c',.slice A'' vs.length c''] 26 (0,0)):=by rw[hL,Below.heap_alloc _ _ _ (by simp)];exact heap_alloc_new w _
 have hQ:w1.heap[g]?=some (.cells #[.bool false,.slice none 0 0] 132 (0,0)):=by
  rw[hL,hg];have h:=heap_alloc_new (w.alloc (.cells #[.int .i64 14,.string s,.int .i64 n,.slice A ps.length c,.slice A' fs.length c',.slice A'' vs.length c''] 26)) (.cells #[.bool false,.slice none 0 0] 132);rw[World.size_alloc]at h;exact h
 have hC:w2.heap[g3]?=some (.cells #[.bool false,.slice none 0 0] 132 (0,0)):=by rw[hP,kI,<-hV];exact heap_alloc_new w1 _
 have HB1:=Hd kX;have HS1:=Hd hV;have hY:=Hd kF;have aI:=Hd aC;have HX0:=Hd (Ay kF (by omega) kM);have HX1:=Hd hQ;have aK:=Hd hC;have HW1:=Hd hL;have aJ:=Hd hP;have HG:=Hd hg;have kA:=Hd kI;have HF:=Hd hF;have HN:=Hd hn;have hlf:=hF.shortF;generalize aB:fs.map (fun f=>f.1)=names;have hR:Z9 (names.length=fs.length/\∀i (h:i<fs.length),names.take (i+1)=names.take i++[fs[i].1]):=Hd (by
  rw[<-aB];refine⟨by simp,fun i h=>?_⟩;rw[List.take_succ_eq_append_getElem (by simpa using h),List.getElem_map])
 have aO:=Ch kM 0;clear hr kX hV kF aC kM hQ hC hL hP hg kI hF hn aB aO;go_enter Tryz.func91,Tryz.ntmps91;go_upto_region 1 with fail
 rw[<-HW1.o,<-HG.o];have hQ:w1.heap[w.heap.size]?=some (.cells #[.int .i64 14,.string s,.int .i64 n,.slice A ps.length c,.slice A' fs.length c',.slice A'' vs.length c''] 26 (0,0)):=(hY.o.block w.heap.size (by have:=HS1.o;omega)).symm.trans HX0.o;obtain⟨x0,x1,x2,x3,x4,x5⟩:=Dw hQ;clear hQ x1 x2 x3 x5;go_upto_region 7 with fail
 have e3:w1.heap.size=g3:=by rw[HS1.o,kA.o]
 rw[<-aJ.o,e3];have x4':=Aa hY.o x4;clear x0 x4;have E3:=Hd e3;clear e3;go_wp2_with fail
 go_loopw [20] (fun v wr=>∃(i:Nat) (A3:Option Addr) (c3:Nat),i<=fs.length/\v=.int .i64 i/\D5 (g3+1) wr (.slice A3 i c3) (names.take i)/\wr.heap[g3]?=some (.cells #[.bool false,.slice A3 i c3] 132 (0,0))/\Below w1.heap.size w1 wr/\w2.heap.size<=wr.heap.size) (fun v _=>fs.length - (intOf v).toNat)
 case atStart=>exact⟨0,none,0,by omega,rfl,World.ownsRow_nil _ _ _ _,aK.o,hY.o,Nat.le_refl _⟩
 case round=>
  obtain⟨i,A3,c3,hi,rfl,ho,hC,hb,hX⟩:=hrel;have HO:=Hd ho;have HX:=Hd hC;have HB:=Hd hb;have kU:=Hd hX;have hD:=Hd (HB1.o.trans (hb.mono HB1.o.size));clear ho hb hX;by_cases hT:i<fs.length
  ·have t1:decide ((i:Int)<(fs.length:Int))=true:=by simp;omega
   have aF:wrap64 ((i:Int)+1)=((i+1:Nat):Int):=Ax (by omega);have HM:=Hd (Bf hT);have aH:Z9 (i+1<=fs.length):=Hd hT;obtain⟨b,o,hA,_,kW⟩:=HF.o.at (by omega);subst hA;obtain⟨kG,kH,hX,ds,hI,hJ⟩:=kW i hT;have kV:=Hd (hR.o.2 i hT);generalize fs[i]=f at kG kH hI hJ kV;obtain⟨nm,fl,t2⟩:=f;obtain⟨k2,s2,n2,kN,kE,kO⟩:=t2;obtain⟨Aq,cq,Ag,cg,Ah,ch,rfl,-⟩:=hJ.inv;have z0:wr.cell? ⟨b,o+i*8,none⟩=some (.string nm):=Aa hD.o kG;have z1:wr.cell? ⟨b,o+i*8+1,none⟩=some (.int .i64 fl):=Aa hD.o kH;have z2:wr.cell? ⟨b,o+i*8+2,none⟩=some (.int .i64 k2):=Aa hD.o (hI 0 _ rfl);have z3:wr.cell? ⟨b,o+i*8+3,none⟩=some (.string s2):=Aa hD.o (hI 1 _ rfl);have z4:wr.cell? ⟨b,o+i*8+4,none⟩=some (.int .i64 n2):=Aa hD.o (hI 2 _ rfl);have z5:wr.cell? ⟨b,o+i*8+5,none⟩=some (.slice Aq kN.length cq):=Aa hD.o (hI 3 _ rfl);have z6:wr.cell? ⟨b,o+i*8+6,none⟩=some (.slice Ag kE.length cg):=Aa hD.o (hI 4 _ rfl);have z7:wr.cell? ⟨b,o+i*8+7,none⟩=some (.slice Ah kO.length ch):=Aa hD.o (hI 5 _ rfl);clear hi kW kG kH hI hJ hX hC;go_upto_region 10 with fail
   generalize hW:wr.alloc (.cells #[.string nm,.int .i64 fl,.int .i64 k2,.string s2,.int .i64 n2,.slice Aq kN.length cq,.slice Ag kE.length cg,.slice Ah kO.length ch] 59)=W;have hH:Below wr.heap.size wr W:=by rw[<-hW];exact (Below.refl _ _).alloc (Nat.le_refl _) _
   have hN:g3<wr.heap.size:=by have:=kU.o;have:=aI.o;have:=kA.o;omega
   have aE:W.heap[wr.heap.size]?=some (.cells #[.string nm,.int .i64 fl,.int .i64 k2,.string s2,.int .i64 n2,.slice Aq kN.length cq,.slice Ag kE.length cg,.slice Ah kO.length ch] 59 (0,0)):=by rw[<-hW];exact heap_alloc_new wr _
   have hC:=Ay hH hN HX.o;have u0:=Ch aE 0;have q1:=Ch hC 1;simp only[List.getElem?_toArray,List.getElem?_cons_zero,List.getElem?_cons_succ]at u0 q1;obtain⟨W2,hS⟩:∃x,x=W.alloc (.cells #[.string nm] 9):=⟨_,rfl⟩;have hB:Below W.heap.size W W2:=by rw[hS];exact (Below.refl _ _).alloc (Nat.le_refl _) _
   have kC:=Hd (Ay hB (by have:=hH.size;omega) hC);have kT:=Hd ((HO.o.later hH).later hB);have HC:=Hd (show W2.cell? ⟨W.heap.size,0,none⟩=some (.string nm) by rw[hS,Ch (heap_alloc_new W _)];rfl);have kQ:Z9 (g3+1<=W2.heap.size):=Hd (by have:=hH.size;have:=hB.size;omega);have hZ:Z9 (Below w1.heap.size w1 W2/\w2.heap.size<=W2.heap.size):=Hd ⟨HB.o.trans ((hH.trans (hB.mono hH.size)).mono HB.o.size),by have:=kU.o;have:=hH.size;have:=hB.size;omega⟩;have kB:=Hd hS;have aG:Z9 ((names.take i).length+1<=1099511627776/\(names.take i).length=i):=Hd (by
    have h1:=hR.o.1;have h2:=HN.o;rw[List.length_take];exact⟨by omega,by omega⟩)
   clear hW hH hN aE hC hS hB z0 z1 z2 z3 z4 z5 z6 z7;go_wp2_with (at_builtin;refine wpList_plain rfl fun Kx hK=>?_;rw[<-kB.o];go_loud (refine O8 (B:=g3+1) (gg:=W.heap.size) (s:=nm) (l:=names.take i) _ _ rfl (by rfl) (by rfl) kT.o HC.o kQ.o aG.o.1 ?_));intro v3 w3 hU hE;refine hK _ _ ?_;clear hK Kx;have hO:∀k,(Value.slice A3 i c3).ownBlock=some k->g3+1<=k:=fun k hk=>(kT.o.lt k hk).1;have hG:w3.heap[g3]?=some (.cells #[.bool false,.slice A3 i c3] 132 (0,0)):=(hE.block g3 (by have:=kQ.o;omega) (fun e=>by have:=hO g3 e.symm;omega)).trans kC.o;have kY:Below w1.heap.size w1 w3:=hZ.o.1.grown hE hZ.o.1.size fun k hk=>by have:=hO k hk;have:=E3.o;omega
   rw[<-kV.o]at hU;have aM:(names.take (i+1)).length=i+1:=by rw[List.length_take];have:=hR.o.1;omega
   obtain⟨A4,c4,aD,-⟩:=D5.list hU (by have:=HN.o;omega);rw[aM]at aD;subst aD;have r1:=Ch hG 1;have r0:=Lib.frozen_of_heap hG 1;simp only[List.getElem?_toArray,List.getElem?_cons_zero,List.getElem?_cons_succ]at r1;have kD:=Hd hG;have kP:=Hd (And.intro kY (Nat.le_trans hZ.o.2 hE.size));have kS:=Hd hU;clear hG kY hU hE u0 q1;go_wp2_with fail;have kK:=Go.heap_setCell_same _ g3 1 _ _ (Value.slice A4 (i+1) c4) kD.o;refine⟨⟨i+1,A4,c4,aH.o,by first|rfl|rw[aF],?f1,kK,kP.o.1.setCell (by show w1.heap.size<=g3;have:=E3.o;omega) _,by rw[World.size_setCell];exact kP.o.2⟩,?f2⟩
   case f1=>
    refine⟨kS.o.1,?_⟩;rcases kS.o.2 with hq|⟨gq,cap,cur,hv,kZ,hh,rq⟩
    ·exact .inl hq
    ·exact .inr ⟨gq,cap,cur,hv,kZ,(Below.heap_setCell _ _ _ _ (show gq≠g3 by omega)).trans hh,rq⟩
   case f2=>first|exact HM.o|(rw[aF];exact HM.o)
  ·have t1:decide ((i:Int)<(fs.length:Int))=false:=by simp;omega
   have aL:i=fs.length:=by omega
   subst aL;have hM:=hR.o.1;have kR:Z9 (D5 (g3+1) wr (.slice A3 names.length c3) names):=Hd (by have h:=HO.o;rw[<-hM,List.take_length]at h;exact h);have rb:=Ay HB.o (by have:=HG.o;have:=HS1.o;omega) HX1.o;have RB:=Hd rb;have q0:=Ch hC 0;have q1:=Ch hC 1;have u0:=Ch rb 0;have u1:=Ch rb 1;have z0:=Lib.frozen_of_heap rb 0;have z1:=Lib.frozen_of_heap rb 1;simp only[List.getElem?_toArray,List.getElem?_cons_zero,List.getElem?_cons_succ]at q0 q1 u0 u1;clear rb hC hi;go_wp2_with fail;have rs:=Jff RB.o (.bool false) (.slice A3 fs.length c3);have r0:=Ch rs 0;have r1:=Ch rs 1;simp only[List.getElem?_toArray,List.getElem?_cons_zero,List.getElem?_cons_succ]at r0 r1;refine bodyPost_ret (v:=.agg #[.bool false,.slice A3 fs.length c3]) (by simp[results,Tryz.results91,go_sem,r0,r1]) rfl ?_;clear r0 r1 q0 q1 u0 u1 z0 z1;refine⟨⟨A3,c3,by rw[hM],?_⟩,(hD.o.setCell (by show w.heap.size<=g;have:=HG.o;omega) _).setCell (by show w.heap.size<=g;have:=HG.o;omega) _⟩;obtain⟨A5,c5,kL,aP⟩:=kR.o.list (by have:=HN.o;omega);injection kL with kL _ _
   subst kL;rcases kR.o.of with ⟨hv,kJ⟩|⟨gq,cq,hv,kZ,aN⟩
   ·subst kJ;exact⟨0,0,fun h=>absurd h (by simp),by simp,fun i h=>absurd h (by simp)⟩
   ·injection hv with hv _ _
    subst hv;have aA:gq≠g:=(by have:=HG.o;have:=kA.o;omega);exact (aN.keep ((Below.heap_setCell _ _ _ _ aA).trans (Below.heap_setCell _ _ _ _ aA))).list (by have:=HN.o;omega)
theorem Jg4 (k:Int) (w:World):Calls Tryz.prog 48 #[.int .i64 k] w fun e w'=>e=.returned (.agg #[.int .i64 k,.string ⟨#[]⟩,.int .i64 0,.slice none 0 0,.slice none 0 0,.slice none 0 0])/\Below w.heap.size w w':=by
 go_enter Tryz.func48,Tryz.ntmps48;go_wp2_with fail;exact bodyPost_ret (v:=.agg #[.int .i64 k,.string ⟨#[]⟩,.int .i64 0,.slice none 0 0,.slice none 0 0,.slice none 0 0]) (by simp[results,Tryz.results48,go_sem]) rfl ⟨rfl,(Below.refl _ _).alloc (Nat.le_refl _) _⟩
theorem P6 (s:Z8) (w:World):Calls Tryz.prog 29 #[.string s] w fun e w'=>e=.returned (.agg #[.int .i64 10,.string s,.int .i64 0,.slice none 0 0,.slice none 0 0,.slice none 0 0])/\Below w.heap.size w w':=by
 go_enter Tryz.func29,Tryz.ntmps29;go_wp2_with fail;exact bodyPost_ret (v:=.agg #[.int .i64 10,.string s,.int .i64 0,.slice none 0 0,.slice none 0 0,.slice none 0 0]) (by simp[results,Tryz.results29,go_sem]) rfl ⟨rfl,(Below.refl _ _).alloc (Nat.le_refl _) _⟩
theorem Rb {K K':Nat->Prop}{w:World}{t q:Ty}{cs ds:List Value}(hr:An K w t cs) (hp:An K' w q ds) :
  Calls Tryz.prog 28 #[.agg cs.toArray,.agg ds.toArray] w fun e w'=>e=.returned (.bool (B6 t q == 0))/\Below w.heap.size w w':=by
 have KO:=Hd fun wx (hx:Below w.heap.size w wx)=>Lp t K K' q wx cs ds (hr.later hx) (hp.later hx);generalize B6 t q=z at KO;obtain⟨k,s,n,ps,fs,vs⟩:=t;obtain⟨A,c,A',c',A'',c'',rfl,-⟩:=hr.inv;obtain⟨k3,s3,n3,ps3,fs3,vs3⟩:=q;obtain⟨A3,c3,B3,d3,C3,e3,rfl,-⟩:=hp.inv;simp only[Ao]at KO ⊢;obtain⟨w1,hA⟩:∃x,x=(w.alloc (.cells #[.int .i64 k,.string s,.int .i64 n,.slice A ps.length c,.slice A' fs.length c',.slice A'' vs.length c''] 26)).alloc (.cells #[.int .i64 k3,.string s3,.int .i64 n3,.slice A3 ps3.length c3,.slice B3 fs3.length d3,.slice C3 vs3.length e3] 26):=⟨_,rfl⟩;have hB:Below w.heap.size w w1:=by rw[hA];exact ((Below.refl _ _).alloc (Nat.le_refl _) _).alloc (by simp) _
 have hC:w1.heap[w.heap.size]?=some (.cells #[.int .i64 k,.string s,.int .i64 n,.slice A ps.length c,.slice A' fs.length c',.slice A'' vs.length c''] 26 (0,0)):=by rw[hA,Below.heap_alloc _ _ _ (by simp)];exact heap_alloc_new w _
 have hD:w1.heap[w.heap.size+1]?=some (.cells #[.int .i64 k3,.string s3,.int .i64 n3,.slice A3 ps3.length c3,.slice B3 fs3.length d3,.slice C3 vs3.length e3] 26 (0,0)):=by
  rw[hA];have h:=heap_alloc_new (w.alloc (.cells #[.int .i64 k,.string s,.int .i64 n,.slice A ps.length c,.slice A' fs.length c',.slice A'' vs.length c''] 26)) (.cells #[.int .i64 k3,.string s3,.int .i64 n3,.slice A3 ps3.length c3,.slice B3 fs3.length d3,.slice C3 vs3.length e3] 26);rw[World.size_alloc]at h;exact h
 have HB1:=Hd hB;have HX0:=Hd hC;have HY0:=Hd hD;have HW1:=Hd hA;clear hr hp hB hC hD hA;go_enter Tryz.func28,Tryz.ntmps28;go_upto_region 1 with fail
 rw[<-HW1.o];obtain⟨x0,x1,x2,x3,x4,x5⟩:=Dw HX0.o;obtain⟨y0,y1,y2,y3,y4,y5⟩:=Dw HY0.o;go_wp2_with fail;refine (KO.o _ HB1.o).mono ?_;rintro e w2 ⟨rfl,hg⟩;have hE:=Hd (HB1.o.trans (hg.below.mono HB1.o.size));clear hg KO x0 x1 x2 x3 x4 x5 y0 y1 y2 y3 y4 y5;go_wp2_with fail;go_ret
 exact⟨rfl,hE.o⟩
def O0 (l:List Ty):List Ty:=if Cv 3 (Fg l) then H3 3 (Fg l) else if Cv 2 (Fg l) then H3 2 (Fg l) else Fg l
def Cx (n s:Bool) (t:Ty):Bool:=t.k == 9 && n || t.k == 10 && s
def Hb (l:List Ty):List Ty:=(O0 l).filter fun t=>!Cx (Cv 7 (O0 l)) (Cv 8 (O0 l)) t
theorem Hm {k:Int}{l:List Ty}:Cv k l=true↔∃t∈l,t.k=k:=by
 unfold Cv;rw[List.any_eq_true];exact⟨fun ⟨t,h,e⟩=>⟨t,h,by simpa using e⟩,fun ⟨t,h,e⟩=>⟨t,h,by simpa using e⟩⟩
theorem G2 {l:List Ty}{t:Ty}:t∈Fg l↔t∈Bk l/\t.k≠1:=by
 unfold Fg;rw[List.mem_filter];simp
theorem Ji {l:List Ty}{k:Int}(hk:k≠1):Cv k (Fg l)=Cv k (Bk l):=by
 rw[Bool.eq_iff_iff,Hm,Hm];exact⟨fun ⟨t,h,e⟩=>⟨t,(G2.1 h).1,e⟩,fun ⟨t,h,e⟩=>⟨t,G2.2 ⟨h,by rw[e];exact hk⟩,e⟩⟩
theorem N6 {k:Int}{l:List Ty}{t:Ty}:t∈H3 k l↔t=E7 k\/(t∈l/\t.k≠k/\En t=true):=by
 unfold H3;rw[List.mem_cons,List.mem_filter];simp
def Tq (l:List Ty):Prop:=∀t∈l,(t.k=3->t=E7 3)/\(t.k=2->t=E7 2)/\(t.k=7\/t.k=8\/t.k=9\/t.k=10->En t=false)
theorem Jct (k:Int):(E7 k).k=k:=rfl
theorem Ja7 {l:List Ty}{t:Ty}(h:t∈l):Cv t.k l=true:=Hm.2 ⟨t,h,rfl⟩
theorem Yj {l:List Ty}(hP:Tq (Bk l)) (t:Ty):t∈Hb l↔t∈Cy l:=by
 unfold Hb Cy;rw[List.mem_filter,List.mem_filter];have n3:Cv 3 (Fg l)=Cv 3 (Bk l):=Ji (by decide);have n2:Cv 2 (Fg l)=Cv 2 (Bk l):=Ji (by decide);have hA:∀k,(k=7\/k=8)->∀q,(q=3\/q=2)->Cv k (H3 q (Fg l))=false:=by
  intro k hk q hq;rw[<-Bool.not_eq_true,Hm];rintro⟨x,hx,e⟩;rcases N6.1 hx with rfl|⟨h1,-,h3⟩
  ·rw[Jct]at e;omega
  ·rw[(hP x (G2.1 h1).1).2.2 (by omega)]at h3;exact absurd h3 (by simp)
 unfold O0;rw[n3,n2]
 cases h3:Cv 3 (Bk l) with
 | true=>
  simp only[if_true];rw[hA 7 (.inl rfl) 3 (.inl rfl),hA 8 (.inr rfl) 3 (.inl rfl),N6,G2];obtain⟨x,hx,ex⟩:=Hm.1 h3;have hC:=(hP x hx).1 ex;subst hC;simp only[Cx,Bool.and_false,Bool.or_false,Bool.not_false,and_true];unfold Dn Cp;rw[h3]
  constructor
  ·rintro (rfl|⟨⟨h1,h4⟩,h5,h6⟩)
   ·exact⟨hx,by rw[Jct];rfl⟩
   ·refine⟨h1,?_⟩;rw[if_neg h4,if_neg h5];simp[h6]
  ·rintro⟨h1,h2⟩;by_cases e1:t.k=1
   ·rw[if_pos e1]at h2;exact absurd h2 (by simp)
   by_cases e3:t.k=3
   ·exact .inl ((hP t h1).1 e3)
   ·rw[if_neg e1,if_neg e3]at h2;simp at h2;exact .inr ⟨⟨h1,e1⟩,e3,h2⟩
 | false=>
  simp only[Bool.false_eq_true,if_false];have e3:t∈Bk l->t.k≠3:=fun h e=>by have:=Ja7 h;rw[e,h3]at this;exact absurd this (by simp)
  cases h2:Cv 2 (Bk l) with
  | true=>
   simp only[if_true];rw[hA 7 (.inl rfl) 2 (.inr rfl),hA 8 (.inr rfl) 2 (.inr rfl),N6,G2];obtain⟨x,hx,ex⟩:=Hm.1 h2;have hB:=(hP x hx).2.1 ex;subst hB;simp only[Cx,Bool.and_false,Bool.or_false,Bool.not_false,and_true];unfold Dn Cp;rw[h3,h2]
   constructor
   ·rintro (rfl|⟨⟨h1,h4⟩,h5,h6⟩)
    ·exact⟨hx,by rw[Jct];rfl⟩
    ·refine⟨h1,?_⟩;rw[if_neg h4,if_neg (e3 h1)];simp[h5,h6]
   ·rintro⟨h1,hk⟩;by_cases e1:t.k=1
    ·rw[if_pos e1]at hk;exact absurd hk (by simp)
    by_cases e2:t.k=2
    ·exact .inl ((hP t h1).2.1 e2)
    ·rw[if_neg e1,if_neg (e3 h1)]at hk;simp[e2]at hk;exact .inr ⟨⟨h1,e1⟩,e2,hk⟩
  | false=>
   simp only[Bool.false_eq_true,if_false];have e2:t∈Bk l->t.k≠2:=fun h e=>by have:=Ja7 h;rw[e,h2]at this;exact absurd this (by simp)
   rw[Ji (by decide),Ji (by decide),G2];unfold Dn Cp Cx;rw[h3,h2]
   constructor
   ·rintro⟨⟨h1,h4⟩,h5⟩;refine⟨h1,?_⟩;rw[if_neg h4,if_neg (e3 h1),if_neg (by simp[e2 h1])];by_cases k9:t.k=9 <;> by_cases k10:t.k=10 <;> simp_all
   ·rintro⟨h1,hk⟩;by_cases e1:t.k=1
    ·rw[if_pos e1]at hk;exact absurd hk (by simp)
    rw[if_neg e1,if_neg (e3 h1),if_neg (by simp[e2 h1])]at hk;refine⟨⟨h1,e1⟩,?_⟩;by_cases k9:t.k=9 <;> by_cases k10:t.k=10 <;> simp_all
theorem Vc {l:List Ty}(hP:Tq (Bk l)):Hv (Dg (Hb l))=Bl l:=by
 unfold Bl;rw[Hx (F5 (Cy l)) fun x=>by rw[Dj,Yj hP]]
theorem Ha {K:Nat->Prop}{w0 w:World}{l:List Ty}{A:Option Addr}{c:Nat}(hL:Jfu K w0 w A l) (k:Int) :
  Calls Tryz.prog 58 #[.slice A l.length c,.int .i64 k] w fun e w'=>e=.returned (.bool (Cv k l))/\w'=w:=by
 obtain⟨b,hD,hK,hC⟩:=hL;have hF:=Hd hD;have hG:=Hd hC;clear hD hC;go_enter Tryz.func58,Tryz.ntmps58;go_wp2_with fail
 go_loopw [5] (fun v wr=>∃(i:Nat),i<=l.length/\v=.int .i64 i/\Cv k l=Cv k (l.drop i)/\wr=w) (fun v _=>l.length - (intOf v).toNat)
 case atStart=>exact⟨0,by omega,rfl,by rw[List.drop_zero],rfl⟩
 case round=>
  obtain⟨i,hi,rfl,he,rfl⟩:=hrel;have HE:=Hd he;clear he;by_cases hB:i<l.length
  ·have t1:decide ((i:Int)<(l.length:Int))=true:=by simp;omega
   have hE:wrap64 ((i:Int)+1)=((i+1:Nat):Int):=Ax (by omega);have hA:=hF.o (by omega);subst hA;obtain⟨q,hq,hJ⟩:∃q,(l[i]'hB).k=q/\wr.cell? ⟨b,i*6,none⟩=some (.int .i64 q):=by
    obtain⟨cs,h1,h2⟩:=hG.o i hB;generalize l[i]=t at h1;obtain⟨k,s,n,ps,fs,vs⟩:=t;obtain⟨_,_,_,_,_,_,rfl,-⟩:=h1.inv;exact⟨k,rfl,h2 0 _ rfl⟩
   have HS:Z9 (Cv k (l.drop i)=((l[i]'hB).k == k || Cv k (l.drop (i+1)))):=Hd (by rw[List.drop_eq_getElem_cons hB];rfl);have HM:=Hd (Bf hB);have hI:Z9 (i+1<=l.length):=Hd hB;by_cases hk:q=k
   ·have HK:Z9 (((l[i]'hB).k == k)=true):=Hd (by rw[hq];simpa using hk);have e13:(q == k)=true:=(by simpa using hk);clear hi hq hk;go_wp2_with fail;go_ret
    exact⟨by rw[HE.o,HS.o,HK.o];rfl,rfl⟩
   ·have HK:Z9 (((l[i]'hB).k == k)=false):=Hd (by rw[hq];simpa using hk);have e13:(q == k)=false:=(by simpa using hk);clear hi hq hk;go_wp2_with fail;refine⟨⟨i+1,hI.o,by first|rfl|rw[hE],by rw[HE.o,HS.o,HK.o];rfl,by first|rfl|trivial⟩,?_⟩;first|exact HM.o|(rw[hE];exact HM.o)
  ·have t1:decide ((i:Int)<(l.length:Int))=false:=by simp;omega
   have hH:Z9 (Cv k l=false):=Hd (by rw[HE.o,List.drop_eq_nil_of_le (by omega)];rfl);clear hi;go_wp2_with fail;go_ret
   exact⟨by rw[hH.o];rfl,rfl⟩
