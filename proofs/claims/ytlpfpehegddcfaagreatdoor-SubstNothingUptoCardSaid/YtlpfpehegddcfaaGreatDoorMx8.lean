import Derived.Test.YtlpfpehegddcfaaGreatDoorMx7
namespace Go.Proofs.YtlpfpehegddcfaaGreatDoor
set_option maxRecDepth 100000
set_option maxHeartbeats 64000000
open Go.RowKit
theorem Fd.low {K:Nat->Prop}{w:World}{A:Option Addr}{l c b o:Nat}(h:Fd K A l c b o) (hb:0<l->b<w.heap.size):Fd (fun b=>b<w.heap.size) A l c b o:=⟨h.le,h.big,h.none,fun hl=>⟨(h.some hl).1,hb hl⟩⟩
theorem Aw.low {K:Nat->Prop}{w:World}(t:Ty):∀cs,Aw K w t cs->Aw (fun b=>b<w.heap.size) w t cs:=by
 refine Ty.ind (C:=fun t=>∀cs,Aw K w t cs->Aw (fun b=>b<w.heap.size) w t cs) ?_ t;intro k t n ps fs vs ihp ihf ihv cs h;obtain⟨A,c,A',c',A'',c'',rfl,ht,⟨pb,po,hA,hp⟩,⟨fb,fo,hA',hf⟩,⟨vb,vo,hA'',hv⟩⟩:=h.inv;refine Aw.of ht ⟨pb,po,hA.low (fun hl=>?_),fun i h=>?_⟩ ⟨fb,fo,hA'.low (fun hl=>World.block_lt_of_cell? _ _ (hf 0 hl).1),fun i h=>?_⟩ ⟨vb,vo,hA''.low (fun hl=>?_),fun i h=>?_⟩
 ·obtain⟨cs,h1,h2⟩:=hp 0 hl;have h6:=h2.six;exact World.block_lt_of_cell? _ _ (h1 0 _ (List.getElem?_eq_getElem (by omega)))
 ·obtain⟨cs,h1,h2⟩:=hp i h;exact⟨cs,h1,ihp _ (List.getElem_mem h) cs h2⟩
 ·obtain⟨h1,h2,h3,cs,h4,h5⟩:=hf i h;exact⟨h1,h2,h3,cs,h4,ihf _ (List.getElem_mem h) cs h5⟩
 ·obtain⟨B,d,h1,_⟩:=hv 0 hl;exact World.block_lt_of_cell? _ _ h1
 ·obtain⟨B,d,h1,h2,h3,⟨b,o,h4,h5⟩⟩:=hv i h;refine⟨B,d,h1,h2,h3,⟨b,o,h4.low (fun hl=>?_),fun j h'=>?_⟩⟩
  ·obtain⟨cs,h6,h7⟩:=h5 0 hl;have h8:=h7.six;exact World.block_lt_of_cell? _ _ (h6 0 _ (List.getElem?_eq_getElem (by omega)))
  ·obtain⟨cs,h6,h7⟩:=h5 j h';exact⟨cs,h6,ihv _ (List.getElem_mem h) _ (List.getElem_mem h') cs h7⟩
theorem De.keepG {w w':World}{t:Ty}{b o g:Nat}(h:De (fun x=>x<g) w t b o) (hb:b<g) (hB:Below g w w'):De (fun x=>x<g) w' t b o:=
 h.keep (fun _ h=>h) (fun b _ _ hk hc=>(World.cell?_of_block (hB.block b hk)).trans hc) (fun _ _ hc=>(World.cell?_of_block (hB.block b hb)).trans hc)
def Jay (w:World) (g L x:Nat):Ending->World->Prop:=fun e w'=>e=.returned (.tuple #[])/\w'.cell? ⟨g,0,none⟩=some (.int .i64 ((L - x:Nat):Int))/\w'.frozen? ⟨g,0,none⟩=false/\Below g w w'
def Xs (w:World) (b o g x:Nat):Prop:=∀L:Nat,w.cell? ⟨g,0,none⟩=some (.int .i64 (L:Int))->w.frozen? ⟨g,0,none⟩=false->L<=4097->Calls Tryz.prog 89 #[.pointer (some ⟨b,o,none⟩),.pointer (some ⟨g,0,none⟩)] w (Jay w g L x)
def Nm (t:Ty):Prop:=∀(w:World) (b o g:Nat),De (fun x=>x<g) w t b o->b<g->Xs w b o g (Am t)
theorem N4 {l:List Ty}{i:Nat}(h:i<l.length):Au (l.drop i)=Am l[i]+Au (l.drop (i+1)):=by rw[List.drop_eq_getElem_cons h];rfl
theorem Vr {l:Bx}{i:Nat}(h:i<l.length):Bm (l.drop i)=Am l[i].2.2+Bm (l.drop (i+1)):=by rw[List.drop_eq_getElem_cons h];rfl
theorem Vx {l:Bt}{i:Nat}(h:i<l.length):Bl (l.drop i)=Au l[i].2+Bl (l.drop (i+1)):=by rw[List.drop_eq_getElem_cons h];rfl
theorem Qr {ps:List Ty}{w wr:World}{A:Option Addr}{c i g:Nat}(hP:Bk (fun x=>x<g) w ps A c) (h:∀p∈ps,Nm p) (hi:i<ps.length) (hB:Below g w wr):∃b o x,A=some ⟨b,o,none⟩/\Au (ps.drop i)=x+Au (ps.drop (i+1))/\Xs wr b (o+i*6) g x:=by
 obtain⟨b,o,hA,hb,hr⟩:=hP.at (by omega);exact⟨b,o,_,hA,N4 hi,h _ (List.getElem_mem hi) wr b _ g ((hr i hi).keepG hb hB) hb⟩
theorem Jdc {fs:Bx}{w wr:World}{A:Option Addr}{c i g:Nat}(hP:Dt (fun x=>x<g) w fs A c) (h:∀f∈fs,Nm f.2.2) (hi:i<fs.length) (hB:Below g w wr):∃b o x,A=some ⟨b,o,none⟩/\Bm (fs.drop i)=x+Bm (fs.drop (i+1))/\Xs wr b (o+i*8+2) g x:=by
 obtain⟨b,o,hA,hb,hr⟩:=hP.at (by omega);exact⟨b,o,_,hA,Vr hi,h _ (List.getElem_mem hi) wr b _ g ((hr i hi).2.2.2.keepG hb hB) hb⟩
theorem Ul {vs:Bt}{w:World}{A:Option Addr}{c i g:Nat}(hP:Da (fun x=>x<g) w vs A c) (h:∀v∈vs,∀b∈v.2,Nm b) (hi:i<vs.length):∃b o B d,∃l:List Ty,A=some ⟨b,o,none⟩/\Bl (vs.drop i)=Au l+Bl (vs.drop (i+1))/\(∀wr,Below g w wr->wr.cell? ⟨b,o+i*2+1,none⟩=some (.slice B l.length d))/\Bk (fun x=>x<g) w l B d/\(∀p∈l,Nm p):=by
 obtain⟨b,o,hA,hb,hr⟩:=hP.at (by omega);obtain⟨B,d,_,h1,_,h2⟩:=hr i hi;exact⟨b,o,B,d,vs[i].2,hA,Vx hi,fun wr hB=>(World.cell?_of_block (hB.block b hb)).trans h1,h2,h _ (List.getElem_mem hi)⟩
theorem Yb (k:Int) (t:Z8) (n:Int) (ps:List Ty) (fs:Bx) (vs:Bt) (hp:∀p∈ps,Nm p) (hf:∀f∈fs,Nm f.2.2) (hv:∀v∈vs,∀b∈v.2,Nm b):Nm (.mk k t n ps fs vs):=by
 intro w b o g ha kO L hc kR hL;obtain⟨A,c,A2,c2,A3,c3,⟨-,-,-,x3,x4,x5⟩,-,hP,hF,hV⟩:=ha.six;have HX:Z9 (∀wx,Below g w wx->wx.cell? ⟨b,o+3,none⟩=some (.slice A ps.length c)/\wx.cell? ⟨b,o+4,none⟩=some (.slice A2 fs.length c2)/\wx.cell? ⟨b,o+5,none⟩=some (.slice A3 vs.length c3)):=Hd fun wx hB=>⟨(World.cell?_of_block (hB.block b kO)).trans x3,(World.cell?_of_block (hB.block b kO)).trans x4,(World.cell?_of_block (hB.block b kO)).trans x5⟩;have HP:=Hd hP;have HF:=Hd hF;have HV:=Hd hV;have kZ:=Hd hp;have kW:=Hd hf;have kP:=Hd hv;have hlp:=hP.short;have hlf:=hF.shortF;have hlv:vs.length<=1000000000000000:=by obtain⟨_,_,hr,_⟩:=hV;exact hr.big
 clear ha hP hF hV hp hf hv;rw[Bu];by_cases h0:L=0
 ·subst h0;go_enter Tryz.func89,Tryz.ntmps89;go_wp2_with fail;refine bodyPost_ret (v:=.tuple #[]) (by simp[results,Tryz.results89,go_sem]) rfl ?_;exact⟨rfl,by rw[hc];simp,kR,Below.refl _ _⟩
 have t0:(((L:Nat):Int) == 0)=false:=beq_eq_false_iff_ne.2 (by omega);have HL:Z9 (L<=4097):=Hd hL;have aB:Z9 (L≠0):=Hd h0;have HG:=Hd kO;have aA:wrap64 ((L:Int) - 1)=((L - 1:Nat):Int):=by rw[Cm (by omega) (by omega)];omega
 have kX:∀v,Below g w (w.setCell ⟨g,0,none⟩ v):=fun v=>(Below.refl g w).setCell (p:=(⟨g,0,none⟩:Addr)) (Nat.le_refl g) v;have kY:=Hd kX;have kF:Z9 ((w.setCell ⟨g,0,none⟩ (.int .i64 ((L - 1:Nat):Int))).cell? ⟨g,0,none⟩=some (.int .i64 ((L - 1:Nat):Int))/\(w.setCell ⟨g,0,none⟩ (.int .i64 ((L - 1:Nat):Int))).frozen? ⟨g,0,none⟩=false):=Hd ⟨World.cell?_setCell_same _ _ _ hc,by rw[World.frozen?_setCell,kR]⟩;clear hL h0 kO kX;go_enter Tryz.func89,Tryz.ntmps89;go_wp2_with fail;clear x3 x4 x5 t0 aA hc kR
 go_loopw [4] (fun v wr=>∃(i x1:Nat),i<=ps.length/\v=.int .i64 i/\x1<=4097/\x1 - Au (ps.drop i)=(L - 1) - Au ps/\wr.cell? ⟨g,0,none⟩=some (.int .i64 (x1:Int))/\wr.frozen? ⟨g,0,none⟩=false/\Below g w wr) (fun v _=>ps.length - (intOf v).toNat)
 case atStart=>exact⟨0,L - 1,by omega,by first|rfl|simp,by have:=HL.o;omega,by rw[List.drop_zero],kF.o.1,kF.o.2,kY.o _⟩
 case round=>
  obtain⟨i,x1,hi,rfl,hx,hs,hD,hE,hB⟩:=hrel;have HS:=Hd hs;have HB:=Hd hB;obtain⟨y3,y4,y5⟩:=HX.o _ hB;by_cases hC:i<ps.length/\0<x1
  ·have t1:decide ((i:Int)<(ps.length:Int))=true:=by simp;omega
   have t2:0<x1:=by omega
   have hI:=Hd hC;obtain⟨pb,po,q,hA,hK,hN⟩:=Qr HP.o kZ.o hC.1 HB.o;subst hA;have KN:=Hd (hN x1 hD hE hx);have HT:=Hd (by rw[hK]at hs;omega:x1 - q - Au (ps.drop (i+1))=(L - 1) - Au ps);have hq:x1 - q<=4097:=by omega
   have hR:wrap64 ((i:Int)+1)=((i+1:Nat):Int):=Ba (by omega);have kN:=hC.1;clear hC hi hs hB hN hK;go_wp2_with fail;refine KN.o.mono ?_;rintro e w2 ⟨rfl,hO,hQ,hM⟩;have hJ:=Hd (And.intro hO hQ);have hZ:=Hd (HB.o.trans hM);clear hM KN hO hQ hD hE y3 y4 y5;go_wp2_with fail;refine⟨⟨i+1,x1 - q,hI.o.1,by first|rfl|rw[hR],hq,HT.o,hJ.o.1,hJ.o.2,hZ.o⟩,?_⟩;first|exact Bg hI.o.1|(rw[hR];exact Bg hI.o.1)
  ·by_cases kM:i<ps.length
   ·have t1:decide ((i:Int)<(ps.length:Int))=true:=(by simp;omega);have t2:x1=0:=(by omega);have kE:Z9 (x1=(L - 1) - Au ps):=Hd (by have h:=HS.o;omega);clear hC hi hs hB;go_wp2_with fail;clear t2;have kF:=Hd (And.intro hD hE);have kQ:=HB;have kV:=hx;clear hD hE y3 y4 y5 HB HS t1 hx
    go_loopw [5] (fun v wr=>∃(i x2:Nat),i<=fs.length/\v=.int .i64 i/\x2<=4097/\x2 - Bm (fs.drop i)=x1 - Bm fs/\wr.cell? ⟨g,0,none⟩=some (.int .i64 (x2:Int))/\wr.frozen? ⟨g,0,none⟩=false/\Below g w wr) (fun v _=>fs.length - (intOf v).toNat)
    case atStart=>exact⟨0,x1,by omega,rfl,kV,by rw[List.drop_zero],kF.o.1,kF.o.2,kQ.o⟩
    case round=>
     obtain⟨i,x2,hi,rfl,hx,hs,hD,hE,hB⟩:=hrel;have HS:=Hd hs;have HB:=Hd hB;obtain⟨y3,y4,y5⟩:=HX.o _ hB;by_cases hC:i<fs.length/\0<x2
     ·have t1:decide ((i:Int)<(fs.length:Int))=true:=(by simp;omega);have t2:0<x2:=(by omega);have hI:=Hd hC;obtain⟨pb,po,q,hA,hK,hN⟩:=Jdc HF.o kW.o hC.1 HB.o;subst hA;have KN:=Hd (hN x2 hD hE hx);have HT:=Hd (by rw[hK]at hs;omega:x2 - q - Bm (fs.drop (i+1))=x1 - Bm fs);have hq:x2 - q<=4097:=(by omega);have hR:wrap64 ((i:Int)+1)=((i+1:Nat):Int):=Ba (by omega);have kN:=hC.1;clear hC hi hs hB hN hK;go_wp2_with fail;refine KN.o.mono ?_;rintro e w2 ⟨rfl,hO,hQ,hM⟩;have hJ:=Hd (And.intro hO hQ);have hZ:=Hd (HB.o.trans hM);clear hM KN hO hQ hD hE y3 y4 y5;go_wp2_with fail;refine⟨⟨i+1,x2 - q,hI.o.1,by first|rfl|rw[hR],hq,HT.o,hJ.o.1,hJ.o.2,hZ.o⟩,?_⟩;first|exact Bg hI.o.1|(rw[hR];exact Bg hI.o.1)
     ·by_cases kM:i<fs.length
      ·have t1:decide ((i:Int)<(fs.length:Int))=true:=(by simp;omega);have t2:x2=0:=(by omega);have kA:Z9 (x2=x1 - Bm fs):=Hd (by have h:=HS.o;omega);clear hC hi hs hB;go_wp2_with fail;clear t2;have hJ:=Hd (And.intro hD hE);have kH:=HB;have kK:=hx;clear hD hE y3 y4 y5 HB HS t1 hx
       go_loopw [6] (fun v wr=>∃(i x:Nat),i<=vs.length/\v=.int .i64 i/\x<=4097/\x - Bl (vs.drop i)=x2 - Bl vs/\wr.cell? ⟨g,0,none⟩=some (.int .i64 (x:Int))/\wr.frozen? ⟨g,0,none⟩=false/\Below g w wr) (fun v _=>vs.length - (intOf v).toNat)
       case atStart=>exact⟨0,x2,by omega,rfl,kK,by rw[List.drop_zero],hJ.o.1,hJ.o.2,kH.o⟩
       case round=>
        obtain⟨i,x,hi,rfl,hx,hs,hD,hE,hB⟩:=hrel;have HS:=Hd hs;have HB:=Hd hB;obtain⟨y3,y4,y5⟩:=HX.o _ hB;by_cases hC:i<vs.length/\0<x
        ·have t1:decide ((i:Int)<(vs.length:Int))=true:=(by simp;omega);have t2:0<x:=(by omega);have hI:=Hd hC;obtain⟨vb,vo,B,d,l,hA,hK,hH,hY,kC⟩:=Ul HV.o kP.o hC.1;subst hA;have kB:=Hd hK;have HZ:=Hd hH;have kJ:=Hd hY;have kI:=Hd kC;have kU:=hY.short;have hG:=hI;have hX:=HS;have hS:wrap64 ((i:Int)+1)=((i+1:Nat):Int):=Ba (by omega);have kN:i<vs.length:=hC.1;have hT:=Hd (And.intro hD hE);have kD:=hx;have z5:=hH _ hB;have kG:=HB;clear hC hi hs hB hK hH hY kC hI HS HB;go_wp2_with fail;clear t1 t2 hD hE y3 y4 y5 z5 hx;generalize kL:x=xo at hT kD hX;clear kL
         go_loopw [7] (fun v wx=>∃(j x:Nat),j<=l.length/\v=.int .i64 j/\x<=4097/\x - Au (l.drop j)=xo - Au l/\wx.cell? ⟨g,0,none⟩=some (.int .i64 (x:Int))/\wx.frozen? ⟨g,0,none⟩=false/\Below g w wx) (fun v _=>l.length - (intOf v).toNat)
         case atStart=>exact⟨0,xo,by omega,rfl,kD,by rw[List.drop_zero],hT.o.1,hT.o.2,kG.o⟩
         case round=>
          obtain⟨j,x,hj,rfl,hx,hs,hD,hE,hB⟩:=hrel;have HS:=Hd hs;have HB:=Hd hB;obtain⟨y3,y4,y5⟩:=HX.o _ hB;have z5:=HZ.o _ hB;by_cases hC:j<l.length/\0<x
          ·have t1:decide ((j:Int)<(l.length:Int))=true:=(by simp;omega);have t2:0<x:=(by omega);have hI:=Hd hC;obtain⟨pb,po,q,hA,hK,hN⟩:=Qr kJ.o kI.o hC.1 HB.o;subst hA;have KN:=Hd (hN x hD hE hx);have HT:=Hd (by rw[hK]at hs;omega:x - q - Au (l.drop (j+1))=xo - Au l);have hq:x - q<=4097:=(by omega);have hR:wrap64 ((j:Int)+1)=((j+1:Nat):Int):=Ba (by omega);have kT:=hC.1;clear hC hj hs hB hN hK;go_wp2_with fail;refine KN.o.mono ?_;rintro e w2 ⟨rfl,hO,hQ,hM⟩;have hJ:=Hd (And.intro hO hQ);have hZ:=Hd (HB.o.trans hM);clear hM KN hO hQ hD hE y3 y4 y5 z5;go_wp2_with fail;refine⟨⟨j+1,x - q,hI.o.1,by first|rfl|rw[hR],hq,HT.o,hJ.o.1,hJ.o.2,hZ.o⟩,?_⟩;first|exact Bg hI.o.1|(rw[hR];exact Bg hI.o.1)
          ·by_cases kS:j<l.length
           ·have t1:decide ((j:Int)<(l.length:Int))=true:=(by simp;omega);have t2:x=0:=(by omega);have hW:Z9 (x=xo - Au l):=Hd (by have h:=HS.o;omega);clear hC hj hs hB;go_wp2_with fail;refine⟨⟨i+1,x,hG.o.1,by first|rfl|rw[hS],hx,by have h1:=hW.o;have h2:=hX.o;rw[kB.o]at h2;omega,hD,hE,HB.o⟩,?_⟩;first|exact Bg hG.o.1|(rw[hS];exact Bg hG.o.1)
           ·have t1:decide ((j:Int)<(l.length:Int))=false:=(by simp;omega);have hW:Z9 (x=xo - Au l):=Hd (by have h:=HS.o;rw[List.drop_eq_nil_of_le (by omega)]at h;simpa [Au] using h);clear hC hj hs hB;go_wp2_with fail;refine⟨⟨i+1,x,hG.o.1,by first|rfl|rw[hS],hx,by have h1:=hW.o;have h2:=hX.o;rw[kB.o]at h2;omega,hD,hE,HB.o⟩,?_⟩;first|exact Bg hG.o.1|(rw[hS];exact Bg hG.o.1)
        ·by_cases kM:i<vs.length
         ·have t1:decide ((i:Int)<(vs.length:Int))=true:=(by simp;omega);have t2:x=0:=(by omega);have hU:Z9 (x=x2 - Bl vs):=Hd (by have h:=HS.o;omega);clear hC hi hs hB;go_wp2_with fail;clear t2;refine bodyPost_ret (v:=.tuple #[]) (by simp[results,Tryz.results89,go_sem]) rfl ?_;exact⟨rfl,by rw[hD];have h1:=kE.o;have h2:=kA.o;have h3:=hU.o;congr 3;omega,hE,HB.o⟩
         ·have t1:decide ((i:Int)<(vs.length:Int))=false:=(by simp;omega);have hU:Z9 (x=x2 - Bl vs):=Hd (by have h:=HS.o;rw[List.drop_eq_nil_of_le (by omega)]at h;simpa [Bl] using h);clear hC hi hs hB;go_wp2_with fail;refine bodyPost_ret (v:=.tuple #[]) (by simp[results,Tryz.results89,go_sem]) rfl ?_;exact⟨rfl,by rw[hD];have h1:=kE.o;have h2:=kA.o;have h3:=hU.o;congr 3;omega,hE,HB.o⟩
      ·have t1:decide ((i:Int)<(fs.length:Int))=false:=(by simp;omega);have kA:Z9 (x2=x1 - Bm fs):=Hd (by have h:=HS.o;rw[List.drop_eq_nil_of_le (by omega)]at h;simpa [Bm] using h);clear hC hi hs hB;go_wp2_with fail;have hJ:=Hd (And.intro hD hE);have kH:=HB;have kK:=hx;clear hD hE y3 y4 y5 HB HS t1 hx
       go_loopw [6] (fun v wr=>∃(i x:Nat),i<=vs.length/\v=.int .i64 i/\x<=4097/\x - Bl (vs.drop i)=x2 - Bl vs/\wr.cell? ⟨g,0,none⟩=some (.int .i64 (x:Int))/\wr.frozen? ⟨g,0,none⟩=false/\Below g w wr) (fun v _=>vs.length - (intOf v).toNat)
       case atStart=>exact⟨0,x2,by omega,rfl,kK,by rw[List.drop_zero],hJ.o.1,hJ.o.2,kH.o⟩
       case round=>
        obtain⟨i,x,hi,rfl,hx,hs,hD,hE,hB⟩:=hrel;have HS:=Hd hs;have HB:=Hd hB;obtain⟨y3,y4,y5⟩:=HX.o _ hB;by_cases hC:i<vs.length/\0<x
        ·have t1:decide ((i:Int)<(vs.length:Int))=true:=(by simp;omega);have t2:0<x:=(by omega);have hI:=Hd hC;obtain⟨vb,vo,B,d,l,hA,hK,hH,hY,kC⟩:=Ul HV.o kP.o hC.1;subst hA;have kB:=Hd hK;have HZ:=Hd hH;have kJ:=Hd hY;have kI:=Hd kC;have kU:=hY.short;have hG:=hI;have hX:=HS;have hS:wrap64 ((i:Int)+1)=((i+1:Nat):Int):=Ba (by omega);have kN:i<vs.length:=hC.1;have hT:=Hd (And.intro hD hE);have kD:=hx;have z5:=hH _ hB;have kG:=HB;clear hC hi hs hB hK hH hY kC hI HS HB;go_wp2_with fail;clear t1 t2 hD hE y3 y4 y5 z5 hx;generalize kL:x=xo at hT kD hX;clear kL
         go_loopw [7] (fun v wx=>∃(j x:Nat),j<=l.length/\v=.int .i64 j/\x<=4097/\x - Au (l.drop j)=xo - Au l/\wx.cell? ⟨g,0,none⟩=some (.int .i64 (x:Int))/\wx.frozen? ⟨g,0,none⟩=false/\Below g w wx) (fun v _=>l.length - (intOf v).toNat)
         case atStart=>exact⟨0,xo,by omega,rfl,kD,by rw[List.drop_zero],hT.o.1,hT.o.2,kG.o⟩
         case round=>
          obtain⟨j,x,hj,rfl,hx,hs,hD,hE,hB⟩:=hrel;have HS:=Hd hs;have HB:=Hd hB;obtain⟨y3,y4,y5⟩:=HX.o _ hB;have z5:=HZ.o _ hB;by_cases hC:j<l.length/\0<x
          ·have t1:decide ((j:Int)<(l.length:Int))=true:=(by simp;omega);have t2:0<x:=(by omega);have hI:=Hd hC;obtain⟨pb,po,q,hA,hK,hN⟩:=Qr kJ.o kI.o hC.1 HB.o;subst hA;have KN:=Hd (hN x hD hE hx);have HT:=Hd (by rw[hK]at hs;omega:x - q - Au (l.drop (j+1))=xo - Au l);have hq:x - q<=4097:=(by omega);have hR:wrap64 ((j:Int)+1)=((j+1:Nat):Int):=Ba (by omega);have kT:=hC.1;clear hC hj hs hB hN hK;go_wp2_with fail;refine KN.o.mono ?_;rintro e w2 ⟨rfl,hO,hQ,hM⟩;have hJ:=Hd (And.intro hO hQ);have hZ:=Hd (HB.o.trans hM);clear hM KN hO hQ hD hE y3 y4 y5 z5;go_wp2_with fail;refine⟨⟨j+1,x - q,hI.o.1,by first|rfl|rw[hR],hq,HT.o,hJ.o.1,hJ.o.2,hZ.o⟩,?_⟩;first|exact Bg hI.o.1|(rw[hR];exact Bg hI.o.1)
          ·by_cases kS:j<l.length
           ·have t1:decide ((j:Int)<(l.length:Int))=true:=(by simp;omega);have t2:x=0:=(by omega);have hW:Z9 (x=xo - Au l):=Hd (by have h:=HS.o;omega);clear hC hj hs hB;go_wp2_with fail;refine⟨⟨i+1,x,hG.o.1,by first|rfl|rw[hS],hx,by have h1:=hW.o;have h2:=hX.o;rw[kB.o]at h2;omega,hD,hE,HB.o⟩,?_⟩;first|exact Bg hG.o.1|(rw[hS];exact Bg hG.o.1)
           ·have t1:decide ((j:Int)<(l.length:Int))=false:=(by simp;omega);have hW:Z9 (x=xo - Au l):=Hd (by have h:=HS.o;rw[List.drop_eq_nil_of_le (by omega)]at h;simpa [Au] using h);clear hC hj hs hB;go_wp2_with fail;refine⟨⟨i+1,x,hG.o.1,by first|rfl|rw[hS],hx,by have h1:=hW.o;have h2:=hX.o;rw[kB.o]at h2;omega,hD,hE,HB.o⟩,?_⟩;first|exact Bg hG.o.1|(rw[hS];exact Bg hG.o.1)
        ·by_cases kM:i<vs.length
         ·have t1:decide ((i:Int)<(vs.length:Int))=true:=(by simp;omega);have t2:x=0:=(by omega);have hU:Z9 (x=x2 - Bl vs):=Hd (by have h:=HS.o;omega);clear hC hi hs hB;go_wp2_with fail;clear t2;refine bodyPost_ret (v:=.tuple #[]) (by simp[results,Tryz.results89,go_sem]) rfl ?_;exact⟨rfl,by rw[hD];have h1:=kE.o;have h2:=kA.o;have h3:=hU.o;congr 3;omega,hE,HB.o⟩
         ·have t1:decide ((i:Int)<(vs.length:Int))=false:=(by simp;omega);have hU:Z9 (x=x2 - Bl vs):=Hd (by have h:=HS.o;rw[List.drop_eq_nil_of_le (by omega)]at h;simpa [Bl] using h);clear hC hi hs hB;go_wp2_with fail;refine bodyPost_ret (v:=.tuple #[]) (by simp[results,Tryz.results89,go_sem]) rfl ?_;exact⟨rfl,by rw[hD];have h1:=kE.o;have h2:=kA.o;have h3:=hU.o;congr 3;omega,hE,HB.o⟩
   ·have t1:decide ((i:Int)<(ps.length:Int))=false:=(by simp;omega);have kE:Z9 (x1=(L - 1) - Au ps):=Hd (by have h:=HS.o;rw[List.drop_eq_nil_of_le (by omega)]at h;simpa [Au] using h);clear hC hi hs hB;go_wp2_with fail;have kF:=Hd (And.intro hD hE);have kQ:=HB;have kV:=hx;clear hD hE y3 y4 y5 HB HS t1 hx
    go_loopw [5] (fun v wr=>∃(i x2:Nat),i<=fs.length/\v=.int .i64 i/\x2<=4097/\x2 - Bm (fs.drop i)=x1 - Bm fs/\wr.cell? ⟨g,0,none⟩=some (.int .i64 (x2:Int))/\wr.frozen? ⟨g,0,none⟩=false/\Below g w wr) (fun v _=>fs.length - (intOf v).toNat)
    case atStart=>exact⟨0,x1,by omega,rfl,kV,by rw[List.drop_zero],kF.o.1,kF.o.2,kQ.o⟩
    case round=>
     obtain⟨i,x2,hi,rfl,hx,hs,hD,hE,hB⟩:=hrel;have HS:=Hd hs;have HB:=Hd hB;obtain⟨y3,y4,y5⟩:=HX.o _ hB;by_cases hC:i<fs.length/\0<x2
     ·have t1:decide ((i:Int)<(fs.length:Int))=true:=(by simp;omega);have t2:0<x2:=(by omega);have hI:=Hd hC;obtain⟨pb,po,q,hA,hK,hN⟩:=Jdc HF.o kW.o hC.1 HB.o;subst hA;have KN:=Hd (hN x2 hD hE hx);have HT:=Hd (by rw[hK]at hs;omega:x2 - q - Bm (fs.drop (i+1))=x1 - Bm fs);have hq:x2 - q<=4097:=(by omega);have hR:wrap64 ((i:Int)+1)=((i+1:Nat):Int):=Ba (by omega);have kN:=hC.1;clear hC hi hs hB hN hK;go_wp2_with fail;refine KN.o.mono ?_;rintro e w2 ⟨rfl,hO,hQ,hM⟩;have hJ:=Hd (And.intro hO hQ);have hZ:=Hd (HB.o.trans hM);clear hM KN hO hQ hD hE y3 y4 y5;go_wp2_with fail;refine⟨⟨i+1,x2 - q,hI.o.1,by first|rfl|rw[hR],hq,HT.o,hJ.o.1,hJ.o.2,hZ.o⟩,?_⟩;first|exact Bg hI.o.1|(rw[hR];exact Bg hI.o.1)
     ·by_cases kM:i<fs.length
      ·have t1:decide ((i:Int)<(fs.length:Int))=true:=(by simp;omega);have t2:x2=0:=(by omega);have kA:Z9 (x2=x1 - Bm fs):=Hd (by have h:=HS.o;omega);clear hC hi hs hB;go_wp2_with fail;clear t2;have hJ:=Hd (And.intro hD hE);have kH:=HB;have kK:=hx;clear hD hE y3 y4 y5 HB HS t1 hx
       go_loopw [6] (fun v wr=>∃(i x:Nat),i<=vs.length/\v=.int .i64 i/\x<=4097/\x - Bl (vs.drop i)=x2 - Bl vs/\wr.cell? ⟨g,0,none⟩=some (.int .i64 (x:Int))/\wr.frozen? ⟨g,0,none⟩=false/\Below g w wr) (fun v _=>vs.length - (intOf v).toNat)
       case atStart=>exact⟨0,x2,by omega,rfl,kK,by rw[List.drop_zero],hJ.o.1,hJ.o.2,kH.o⟩
       case round=>
        obtain⟨i,x,hi,rfl,hx,hs,hD,hE,hB⟩:=hrel;have HS:=Hd hs;have HB:=Hd hB;obtain⟨y3,y4,y5⟩:=HX.o _ hB;by_cases hC:i<vs.length/\0<x
        ·have t1:decide ((i:Int)<(vs.length:Int))=true:=(by simp;omega);have t2:0<x:=(by omega);have hI:=Hd hC;obtain⟨vb,vo,B,d,l,hA,hK,hH,hY,kC⟩:=Ul HV.o kP.o hC.1;subst hA;have kB:=Hd hK;have HZ:=Hd hH;have kJ:=Hd hY;have kI:=Hd kC;have kU:=hY.short;have hG:=hI;have hX:=HS;have hS:wrap64 ((i:Int)+1)=((i+1:Nat):Int):=Ba (by omega);have kN:i<vs.length:=hC.1;have hT:=Hd (And.intro hD hE);have kD:=hx;have z5:=hH _ hB;have kG:=HB;clear hC hi hs hB hK hH hY kC hI HS HB;go_wp2_with fail;clear t1 t2 hD hE y3 y4 y5 z5 hx;generalize kL:x=xo at hT kD hX;clear kL
         go_loopw [7] (fun v wx=>∃(j x:Nat),j<=l.length/\v=.int .i64 j/\x<=4097/\x - Au (l.drop j)=xo - Au l/\wx.cell? ⟨g,0,none⟩=some (.int .i64 (x:Int))/\wx.frozen? ⟨g,0,none⟩=false/\Below g w wx) (fun v _=>l.length - (intOf v).toNat)
         case atStart=>exact⟨0,xo,by omega,rfl,kD,by rw[List.drop_zero],hT.o.1,hT.o.2,kG.o⟩
         case round=>
          obtain⟨j,x,hj,rfl,hx,hs,hD,hE,hB⟩:=hrel;have HS:=Hd hs;have HB:=Hd hB;obtain⟨y3,y4,y5⟩:=HX.o _ hB;have z5:=HZ.o _ hB;by_cases hC:j<l.length/\0<x
          ·have t1:decide ((j:Int)<(l.length:Int))=true:=(by simp;omega);have t2:0<x:=(by omega);have hI:=Hd hC;obtain⟨pb,po,q,hA,hK,hN⟩:=Qr kJ.o kI.o hC.1 HB.o;subst hA;have KN:=Hd (hN x hD hE hx);have HT:=Hd (by rw[hK]at hs;omega:x - q - Au (l.drop (j+1))=xo - Au l);have hq:x - q<=4097:=(by omega);have hR:wrap64 ((j:Int)+1)=((j+1:Nat):Int):=Ba (by omega);have kT:=hC.1;clear hC hj hs hB hN hK;go_wp2_with fail;refine KN.o.mono ?_;rintro e w2 ⟨rfl,hO,hQ,hM⟩;have hJ:=Hd (And.intro hO hQ);have hZ:=Hd (HB.o.trans hM);clear hM KN hO hQ hD hE y3 y4 y5 z5;go_wp2_with fail;refine⟨⟨j+1,x - q,hI.o.1,by first|rfl|rw[hR],hq,HT.o,hJ.o.1,hJ.o.2,hZ.o⟩,?_⟩;first|exact Bg hI.o.1|(rw[hR];exact Bg hI.o.1)
          ·by_cases kS:j<l.length
           ·have t1:decide ((j:Int)<(l.length:Int))=true:=(by simp;omega);have t2:x=0:=(by omega);have hW:Z9 (x=xo - Au l):=Hd (by have h:=HS.o;omega);clear hC hj hs hB;go_wp2_with fail;refine⟨⟨i+1,x,hG.o.1,by first|rfl|rw[hS],hx,by have h1:=hW.o;have h2:=hX.o;rw[kB.o]at h2;omega,hD,hE,HB.o⟩,?_⟩;first|exact Bg hG.o.1|(rw[hS];exact Bg hG.o.1)
           ·have t1:decide ((j:Int)<(l.length:Int))=false:=(by simp;omega);have hW:Z9 (x=xo - Au l):=Hd (by have h:=HS.o;rw[List.drop_eq_nil_of_le (by omega)]at h;simpa [Au] using h);clear hC hj hs hB;go_wp2_with fail;refine⟨⟨i+1,x,hG.o.1,by first|rfl|rw[hS],hx,by have h1:=hW.o;have h2:=hX.o;rw[kB.o]at h2;omega,hD,hE,HB.o⟩,?_⟩;first|exact Bg hG.o.1|(rw[hS];exact Bg hG.o.1)
        ·by_cases kM:i<vs.length
         ·have t1:decide ((i:Int)<(vs.length:Int))=true:=(by simp;omega);have t2:x=0:=(by omega);have hU:Z9 (x=x2 - Bl vs):=Hd (by have h:=HS.o;omega);clear hC hi hs hB;go_wp2_with fail;clear t2;refine bodyPost_ret (v:=.tuple #[]) (by simp[results,Tryz.results89,go_sem]) rfl ?_;exact⟨rfl,by rw[hD];have h1:=kE.o;have h2:=kA.o;have h3:=hU.o;congr 3;omega,hE,HB.o⟩
         ·have t1:decide ((i:Int)<(vs.length:Int))=false:=(by simp;omega);have hU:Z9 (x=x2 - Bl vs):=Hd (by have h:=HS.o;rw[List.drop_eq_nil_of_le (by omega)]at h;simpa [Bl] using h);clear hC hi hs hB;go_wp2_with fail;refine bodyPost_ret (v:=.tuple #[]) (by simp[results,Tryz.results89,go_sem]) rfl ?_;exact⟨rfl,by rw[hD];have h1:=kE.o;have h2:=kA.o;have h3:=hU.o;congr 3;omega,hE,HB.o⟩
      ·have t1:decide ((i:Int)<(fs.length:Int))=false:=(by simp;omega);have kA:Z9 (x2=x1 - Bm fs):=Hd (by have h:=HS.o;rw[List.drop_eq_nil_of_le (by omega)]at h;simpa [Bm] using h);clear hC hi hs hB;go_wp2_with fail;have hJ:=Hd (And.intro hD hE);have kH:=HB;have kK:=hx;clear hD hE y3 y4 y5 HB HS t1 hx
       go_loopw [6] (fun v wr=>∃(i x:Nat),i<=vs.length/\v=.int .i64 i/\x<=4097/\x - Bl (vs.drop i)=x2 - Bl vs/\wr.cell? ⟨g,0,none⟩=some (.int .i64 (x:Int))/\wr.frozen? ⟨g,0,none⟩=false/\Below g w wr) (fun v _=>vs.length - (intOf v).toNat)
       case atStart=>exact⟨0,x2,by omega,rfl,kK,by rw[List.drop_zero],hJ.o.1,hJ.o.2,kH.o⟩
       case round=>
        obtain⟨i,x,hi,rfl,hx,hs,hD,hE,hB⟩:=hrel;have HS:=Hd hs;have HB:=Hd hB;obtain⟨y3,y4,y5⟩:=HX.o _ hB;by_cases hC:i<vs.length/\0<x
        ·have t1:decide ((i:Int)<(vs.length:Int))=true:=(by simp;omega);have t2:0<x:=(by omega);have hI:=Hd hC;obtain⟨vb,vo,B,d,l,hA,hK,hH,hY,kC⟩:=Ul HV.o kP.o hC.1;subst hA;have kB:=Hd hK;have HZ:=Hd hH;have kJ:=Hd hY;have kI:=Hd kC;have kU:=hY.short;have hG:=hI;have hX:=HS;have hS:wrap64 ((i:Int)+1)=((i+1:Nat):Int):=Ba (by omega);have kN:i<vs.length:=hC.1;have hT:=Hd (And.intro hD hE);have kD:=hx;have z5:=hH _ hB;have kG:=HB;clear hC hi hs hB hK hH hY kC hI HS HB;go_wp2_with fail;clear t1 t2 hD hE y3 y4 y5 z5 hx;generalize kL:x=xo at hT kD hX;clear kL
         go_loopw [7] (fun v wx=>∃(j x:Nat),j<=l.length/\v=.int .i64 j/\x<=4097/\x - Au (l.drop j)=xo - Au l/\wx.cell? ⟨g,0,none⟩=some (.int .i64 (x:Int))/\wx.frozen? ⟨g,0,none⟩=false/\Below g w wx) (fun v _=>l.length - (intOf v).toNat)
         case atStart=>exact⟨0,xo,by omega,rfl,kD,by rw[List.drop_zero],hT.o.1,hT.o.2,kG.o⟩
         case round=>
          obtain⟨j,x,hj,rfl,hx,hs,hD,hE,hB⟩:=hrel;have HS:=Hd hs;have HB:=Hd hB;obtain⟨y3,y4,y5⟩:=HX.o _ hB;have z5:=HZ.o _ hB;by_cases hC:j<l.length/\0<x
          ·have t1:decide ((j:Int)<(l.length:Int))=true:=(by simp;omega);have t2:0<x:=(by omega);have hI:=Hd hC;obtain⟨pb,po,q,hA,hK,hN⟩:=Qr kJ.o kI.o hC.1 HB.o;subst hA;have KN:=Hd (hN x hD hE hx);have HT:=Hd (by rw[hK]at hs;omega:x - q - Au (l.drop (j+1))=xo - Au l);have hq:x - q<=4097:=(by omega);have hR:wrap64 ((j:Int)+1)=((j+1:Nat):Int):=Ba (by omega);have kT:=hC.1;clear hC hj hs hB hN hK;go_wp2_with fail;refine KN.o.mono ?_;rintro e w2 ⟨rfl,hO,hQ,hM⟩;have hJ:=Hd (And.intro hO hQ);have hZ:=Hd (HB.o.trans hM);clear hM KN hO hQ hD hE y3 y4 y5 z5;go_wp2_with fail;refine⟨⟨j+1,x - q,hI.o.1,by first|rfl|rw[hR],hq,HT.o,hJ.o.1,hJ.o.2,hZ.o⟩,?_⟩;first|exact Bg hI.o.1|(rw[hR];exact Bg hI.o.1)
          ·by_cases kS:j<l.length
           ·have t1:decide ((j:Int)<(l.length:Int))=true:=(by simp;omega);have t2:x=0:=(by omega);have hW:Z9 (x=xo - Au l):=Hd (by have h:=HS.o;omega);clear hC hj hs hB;go_wp2_with fail;refine⟨⟨i+1,x,hG.o.1,by first|rfl|rw[hS],hx,by have h1:=hW.o;have h2:=hX.o;rw[kB.o]at h2;omega,hD,hE,HB.o⟩,?_⟩;first|exact Bg hG.o.1|(rw[hS];exact Bg hG.o.1)
           ·have t1:decide ((j:Int)<(l.length:Int))=false:=(by simp;omega);have hW:Z9 (x=xo - Au l):=Hd (by have h:=HS.o;rw[List.drop_eq_nil_of_le (by omega)]at h;simpa [Au] using h);clear hC hj hs hB;go_wp2_with fail;refine⟨⟨i+1,x,hG.o.1,by first|rfl|rw[hS],hx,by have h1:=hW.o;have h2:=hX.o;rw[kB.o]at h2;omega,hD,hE,HB.o⟩,?_⟩;first|exact Bg hG.o.1|(rw[hS];exact Bg hG.o.1)
        ·by_cases kM:i<vs.length
         ·have t1:decide ((i:Int)<(vs.length:Int))=true:=(by simp;omega);have t2:x=0:=(by omega);have hU:Z9 (x=x2 - Bl vs):=Hd (by have h:=HS.o;omega);clear hC hi hs hB;go_wp2_with fail;clear t2;refine bodyPost_ret (v:=.tuple #[]) (by simp[results,Tryz.results89,go_sem]) rfl ?_;exact⟨rfl,by rw[hD];have h1:=kE.o;have h2:=kA.o;have h3:=hU.o;congr 3;omega,hE,HB.o⟩
         ·have t1:decide ((i:Int)<(vs.length:Int))=false:=(by simp;omega);have hU:Z9 (x=x2 - Bl vs):=Hd (by have h:=HS.o;rw[List.drop_eq_nil_of_le (by omega)]at h;simpa [Bl] using h);clear hC hi hs hB;go_wp2_with fail;refine bodyPost_ret (v:=.tuple #[]) (by simp[results,Tryz.results89,go_sem]) rfl ?_;exact⟨rfl,by rw[hD];have h1:=kE.o;have h2:=kA.o;have h3:=hU.o;congr 3;omega,hE,HB.o⟩
theorem Jbi (t:Ty):Nm t:=Ty.ind (C:=Nm) (fun k t n ps fs vs hp hf hv=>Yb k t n ps fs vs hp hf hv) t
theorem Kb {K:Nat->Prop}{w:World}{t:Ty}{cs:List Value}(h:Aw K w t cs) :
  Calls Tryz.prog 52 #[.agg cs.toArray] w fun e w'=>e=.returned (.int .i64 (Cj (Am t):Nat))/\Below w.heap.size w w':=by
 have hB:=Aw.low t cs h;have hC:Below w.heap.size w ((w.alloc (.cells cs.toArray 26)).alloc (.cells #[.int .i64 4097] 3)):=((Below.refl _ _).alloc (Nat.le_refl _) _).alloc (by simp) _;have hA:Below (w.heap.size+1) (w.alloc (.cells cs.toArray 26)) ((w.alloc (.cells cs.toArray 26)).alloc (.cells #[.int .i64 4097] 3)):=(Below.refl _ _).alloc (by simp) _;have a1:De (fun x=>x<w.heap.size+1) (w.alloc (.cells cs.toArray 26)) t w.heap.size 0:=(De.box _ hB).keep (fun _ h=>Nat.lt_succ_of_lt h) (fun _ _ _ _ h=>h) (fun _ _ h=>h);have KC:=Hd (Jbi t _ w.heap.size 0 (w.heap.size+1) (a1.keepG (Nat.lt_succ_self _) hA) (Nat.lt_succ_self _) 4097 (by simp) (by simp) (by omega));have HB:=Hd hC;have HC:Z9 ((4097:Int) - ((4097 - Am t:Nat):Int)=((Cj (Am t):Nat):Int)):=Hd (by unfold Cj;omega);have hy:((4097 - Am t:Nat):Int)<=4097:=by omega
 obtain⟨k,s,n,ps,fs,vs⟩:=t;obtain⟨A,c,A',c',A'',c'',rfl,_⟩:=h.inv;generalize Cj (Am (.mk k s n ps fs vs))=r at HC ⊢;generalize Am (.mk k s n ps fs vs)=q at KC HC hy;simp only[Az]at KC HB ⊢;clear h hB hC hA a1;go_enter Tryz.func52,Tryz.ntmps52;go_wp2_with fail;refine KC.o.mono ?_;rintro e w2 ⟨rfl,hF,hG,hA⟩;have hD:=Hd (HB.o.trans (hA.mono (by omega)));generalize 4097 - q=y at *;have hE:wrap64 ((4097:Int) - (y:Int))=(r:Int):=by have:=HC.o;rw[Cm (by omega) (by omega)];exact this
 clear hA;go_wp2_with fail;go_ret
 exact⟨by first|rw[hE]|(rw[<-HC.o];rfl),hD.o⟩
theorem Oz {K:Nat->Prop}{w:World}{t:Ty}{cs:List Value}(h:Aw K w t cs):∀u∈cs,u.oneCell'=true:=by
 obtain⟨k,s,n,ps,fs,vs⟩:=t;obtain⟨A,c,A',c',A'',c'',rfl,-⟩:=h.inv;intro u hu;simp only[Az,List.mem_cons,List.not_mem_nil,or_false]at hu;rcases hu with rfl|rfl|rfl|rfl|rfl|rfl <;> rfl
theorem Kl {K:Nat->Prop}{w:World}{l:List Ty}{b o:Nat}(h:∀i (h:i<l.length),De K w l[i] b (o+i*6)) :
  ∃news:List Value,news.length=l.length*6/\(∀j u,news[j]?=some u->w.cell? ⟨b,o+j,none⟩=some u)/\(∀u∈news,u.oneCell'=true)/\∀i (h:i<l.length),∃cs,Aw K w l[i] cs/\∀j u,cs[j]?=some u->news[i*6+j]?=some u:=by
 have key:∀n,n<=l.length->∃news:List Value,news.length=n*6/\(∀j u,news[j]?=some u->w.cell? ⟨b,o+j,none⟩=some u)/\(∀u∈news,u.oneCell'=true)/\∀i (h:i<l.length),i<n->∃cs,Aw K w l[i] cs/\∀j u,cs[j]?=some u->news[i*6+j]?=some u:=by
  intro n
  induction n with
  | zero=>intro _;exact⟨[],rfl,fun j u h=>by simp at h,fun u h=>by simp at h,fun i _ h=>absurd h (by omega)⟩
  | succ n ih=>
   intro hn;obtain⟨news,h1,h2,h3,h4⟩:=ih (by omega);obtain⟨cs,h5,h6⟩:=h n (by omega);have h7:=h6.six;refine⟨news++cs,by rw[List.length_append];omega,fun j u hj=>?_,fun u hu=>?_,fun i hi hC=>?_⟩
   ·by_cases hA:j<news.length
    ·rw[List.getElem?_append_left hA]at hj;exact h2 j u hj
    ·rw[List.getElem?_append_right (by omega)]at hj;have:=h5 _ _ hj;rw[<-this];congr 2;omega
   ·rcases List.mem_append.1 hu with hu|hu
    ·exact h3 u hu
    ·exact Oz h6 u hu
   ·by_cases hA:i<n
    ·obtain⟨cs',h8,h9⟩:=h4 i hi hA;refine⟨cs',h8,fun j u hj=>?_⟩;have hB:=h9 j u hj;rw[List.getElem?_append_left (List.getElem?_eq_some_iff.1 hB).1];exact hB
    ·obtain rfl:i=n:=by omega
     refine⟨cs,h6,fun j u hj=>?_⟩;rw[List.getElem?_append_right (by omega),show i*6+j - news.length=j from by omega];exact hj
 obtain⟨news,h1,h2,h3,h4⟩:=key l.length (Nat.le_refl _);exact⟨news,h1,h2,h3,fun i hi=>h4 i hi hi⟩
theorem Cs.many {K:Nat->Prop}{w0 w':World}{v':Value}{ts l:List Ty}{vs news:List Value}(hl:vs.length=ts.length*6) (h:∀i (h:i<ts.length),∃cs,Aw K w0 ts[i] cs/\∀j u,cs[j]?=some u->vs[i*6+j]?=some u)
  (ht:∀i (h:i<l.length),∃cs,Aw K w0 l[i] cs/\∀j u,cs[j]?=some u->news[i*6+j]?=some u) (ho:w'.ownsRow w0.heap.size 26 6 v' (ts.length+l.length) (vs++news)):Cs K w0 w' v' (ts++l):=by
 refine⟨⟨vs++news,by rw[List.length_append];exact ho,fun i hi=>?_⟩⟩;rw[List.length_append]at hi;by_cases hA:i<ts.length
 ·obtain⟨cs',h1,h2⟩:=h i hA;refine⟨cs',by rw[List.getElem_append_left hA];exact h1,fun j u hj=>?_⟩;have h3:=h2 j u hj;rw[List.getElem?_append_left (List.getElem?_eq_some_iff.1 h3).1];exact h3
 ·obtain⟨cs,h1,h2⟩:=ht (i - ts.length) (by omega);refine⟨cs,by rw[List.getElem_append_right (by omega)];exact h1,fun j u hj=>?_⟩;rw[List.getElem?_append_right (by omega),show i*6+j - vs.length=(i - ts.length)*6+j from by omega];exact h2 j u hj
theorem Lz:Tryz.prog.underlying 22=some (.slice 26):=by kernel_rfl
theorem Ni {K:Nat->Prop}{w0 w:World}{v:Value}{ts l:List Ty}{A:Option Addr}{c:Nat}{o:Oper}{a:Act}{Kc:Act->World->Prop}{Q:Exit->Act->World->Prop}(s x:Operand)
  (ho:o.op=.call { callee:=.builtin .append,args:=#[s,x],argTypes:=#[22,22] }) (hs:a.eval s=v) (hx:a.eval x=.slice A l.length c)
  (hO:Cs K w0 w v ts) (hL:Bk K w0 l A c) (hb:Below w0.heap.size w0 w) (hF:ts.length+l.length<=1099511627776)
  (h:∀v' w',Cs K w0 w' v' (ts++l)->Below w0.heap.size w0 w'->w.grownBy w' v.ownBlock->Kc (a.put o.dst v') w') :
  Oper.wp Tryz.prog o a w Kc Q:=by
 obtain⟨vs,hA,hB⟩:=hO;obtain⟨i0,hE,hJ,hK,hM⟩:=Eg Ht;obtain⟨b,o',hr,hG⟩:=hL;rcases A with _|ad
 ·have hI:l=[]:=by
   rcases l with _|⟨y,l⟩
   ·rfl
   ·exact absurd (hr.some (by simp)).1 (by simp)
  subst hI;have hH:=hr.none rfl;subst hH;have hD:=run_append_owned_none (P:=Tryz.prog) (w:=w) w0.heap.size 22 o.type 26 i0 6 Lz hE v ts.length vs hA;unfold Oper.wp execOp;simp only[ho,resolve,invoke,builtin,Sem.run_bind,Sem.run_pure,Result.andThen_ok,List.map_toArray,List.map_cons,List.map_nil,hs,hx,List.length_nil,hD];exact h v w (by rw[List.append_nil];exact⟨vs,hA,hB⟩) hb ⟨rfl,rfl,rfl,Nat.le_refl _,fun _ _ _=>rfl⟩
 ·have hC:0<l.length->ad=⟨b,o',none⟩:=fun h0=>by have:=(hr.some h0).1;injection this
  obtain⟨news,h1,h2,h3,h4⟩:=Kl hG;refine Cb s x 22 ho w0.heap.size 26 i0 _ 6 104 Lz hE hJ hK hM (by decide) (by decide) v ts.length vs hs hA ad l.length c news hx h1 (fun j u hj=>?_) h3 (by simp only[maxLen];omega) (by omega) hb.size ?_
  ·have hN:=(List.getElem?_eq_some_iff.1 hj).1;have e:=hC (by omega);subst e;have e2:((⟨b,o',none⟩:Addr).add j)=⟨b,o'+j,none⟩:=by unfold Addr.add;by_cases h0:j=0 <;> simp[h0]
   rw[e2];exact Aa hb (h2 j u hj)
  ·intro v' w' g1 g2 _ _;exact h v' w' (Cs.many hA.1 hB h4 g1) (hb.grown g2 hb.size fun k hk=>(hA.lt k hk).1) g2
theorem Cs.list {K:Nat->Prop}{w0 w:World}{v:Value}{ts:List Ty}(h:Cs K w0 w v ts) (hB:∀b,K b->b<w0.heap.size) (hb:Below w0.heap.size w0 w) (hl:ts.length<=1000000000000000) :
  ∃A c,v=.slice A ts.length c/\Bk (fun b=>K b\/w0.heap.size<=b) w ts A c:=by
 rcases Fc.of_out h with ⟨hv,hn⟩|⟨g,c,hv,hg,hi⟩
 ·subst hn;exact⟨none,0,hv,⟨0,0,⟨by simp,by simp,fun _=>rfl,fun h=>absurd h (by simp)⟩,fun i h=>absurd h (by simp)⟩⟩
 ·refine⟨_,c,hv,⟨g,0,⟨hi.le,hl,(fun h=>by cases h),fun _=>⟨rfl,.inr hg⟩⟩,fun i hA=>?_⟩⟩;obtain⟨cs,h4,h5⟩:=hi.reps i _ (List.getElem?_eq_getElem hA);refine⟨cs,fun j u hj=>by rw[Nat.zero_add];exact h5 j u hj,Aw.keep (fun _ h=>.inl h) (fun b o v hk hc=>?_) _ _ h4⟩;exact (World.cell?_of_block (hb.block b (hB b hk))).trans hc
theorem Fd.both {K:Nat->Prop}{w:World}{A:Option Addr}{l c b o:Nat}(h:Fd K A l c b o) (hb:0<l->b<w.heap.size):Fd (fun b=>K b/\b<w.heap.size) A l c b o:=⟨h.le,h.big,h.none,fun hl=>⟨(h.some hl).1,(h.some hl).2,hb hl⟩⟩
theorem Aw.both {K:Nat->Prop}{w:World}(t:Ty):∀cs,Aw K w t cs->Aw (fun b=>K b/\b<w.heap.size) w t cs:=by
 refine Ty.ind (C:=fun t=>∀cs,Aw K w t cs->Aw (fun b=>K b/\b<w.heap.size) w t cs) ?_ t;intro k t n ps fs vs ihp ihf ihv cs h;obtain⟨A,c,A',c',A'',c'',rfl,ht,⟨pb,po,hA,hp⟩,⟨fb,fo,hA',hf⟩,⟨vb,vo,hA'',hv⟩⟩:=h.inv;refine Aw.of ht ⟨pb,po,hA.both (fun hl=>?_),fun i h=>?_⟩ ⟨fb,fo,hA'.both (fun hl=>World.block_lt_of_cell? _ _ (hf 0 hl).1),fun i h=>?_⟩ ⟨vb,vo,hA''.both (fun hl=>?_),fun i h=>?_⟩
 ·obtain⟨cs,h1,h2⟩:=hp 0 hl;have h6:=h2.six;exact World.block_lt_of_cell? _ _ (h1 0 _ (List.getElem?_eq_getElem (by omega)))
 ·obtain⟨cs,h1,h2⟩:=hp i h;exact⟨cs,h1,ihp _ (List.getElem_mem h) cs h2⟩
 ·obtain⟨h1,h2,h3,cs,h4,h5⟩:=hf i h;exact⟨h1,h2,h3,cs,h4,ihf _ (List.getElem_mem h) cs h5⟩
 ·obtain⟨B,d,h1,_⟩:=hv 0 hl;exact World.block_lt_of_cell? _ _ h1
 ·obtain⟨B,d,h1,h2,h3,⟨b,o,h4,h5⟩⟩:=hv i h;refine⟨B,d,h1,h2,h3,⟨b,o,h4.both (fun hl=>?_),fun j h'=>?_⟩⟩
  ·obtain⟨cs,h6,h7⟩:=h5 0 hl;have h8:=h7.six;exact World.block_lt_of_cell? _ _ (h6 0 _ (List.getElem?_eq_getElem (by omega)))
  ·obtain⟨cs,h6,h7⟩:=h5 j h';exact⟨cs,h6,ihv _ (List.getElem_mem h) _ (List.getElem_mem h') cs h7⟩
theorem Bk.both {K:Nat->Prop}{w:World}{l:List Ty}{A:Option Addr}{c:Nat}(h:Bk K w l A c):Bk (fun b=>K b/\b<w.heap.size) w l A c:=by
 obtain⟨b,o,h1,h2⟩:=h;refine⟨b,o,h1.both fun hl=>?_,fun i hi=>?_⟩
 ·obtain⟨cs,h3,h4⟩:=h2 0 hl;have h6:=h4.six;exact World.block_lt_of_cell? _ _ (h3 0 _ (List.getElem?_eq_getElem (by omega)))
 ·obtain⟨cs,h3,h4⟩:=h2 i hi;exact⟨cs,h3,Aw.both _ _ h4⟩
theorem Aw.weak {K K':Nat->Prop}{w:World}{t:Ty}{cs:List Value}(h:Aw K w t cs) (hk:∀b,K b->K' b):Aw K' w t cs:=Aw.keep hk (fun _ _ _ _ h=>h) t cs h
theorem Bk.weak {K K':Nat->Prop}{w:World}{l:List Ty}{A:Option Addr}{c:Nat}(h:Bk K w l A c) (hk:∀b,K b->K' b):Bk K' w l A c:=by
 obtain⟨b,o,h1,h2⟩:=h;exact⟨b,o,h1.weak hk,fun i hi=>by obtain⟨cs,h3,h4⟩:=h2 i hi;exact⟨cs,h3,h4.weak hk⟩⟩
theorem Jdf (K:Nat->Prop) (w:World) (k:Int):Aw K w (Hi k) [.int .i64 k,.string ⟨#[]⟩,.int .i64 0,.slice none 0 0,.slice none 0 0,.slice none 0 0]:=
 Aw.of (by decide) ⟨⟨0,0,⟨by simp,by decide,fun _=>rfl,fun h=>absurd h (by simp)⟩,fun i h=>absurd h (by simp)⟩⟩ ⟨⟨0,0,⟨by simp,by decide,fun _=>rfl,fun h=>absurd h (by simp)⟩,fun i h=>absurd h (by simp)⟩⟩ ⟨⟨0,0,⟨by simp,by decide,fun _=>rfl,fun h=>absurd h (by simp)⟩,fun i h=>absurd h (by simp)⟩⟩
theorem Bj {w w':World}{b:Nat}{o:Obj}(hb:Below w.heap.size w w') (hA:b<w.heap.size) (h:w.heap[b]?=some o):w'.heap[b]?=some o:=(hb.block b hA).trans h
