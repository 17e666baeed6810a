import Derived.Test.YtlpfpehegddcfaaGreatDoorMv6
namespace Go.Proofs.YtlpfpehegddcfaaGreatDoor
set_option maxRecDepth 100000
set_option maxHeartbeats 64000000
open Go.RowKit
theorem RowAt.low {K:Nat->Prop} {w:World} {A:Option Addr} {l c b o:Nat} (h:RowAt K A l c b o) (hb:0<l->b<w.heap.size):RowAt (fun b=>b<w.heap.size) A l c b o:=⟨h.le,h.big,h.none,fun hl=>⟨(h.some hl).1,hb hl⟩⟩
theorem RepT.low {K:Nat->Prop} {w:World} (t:Ty):∀ cs,RepT K w t cs->RepT (fun b=>b<w.heap.size) w t cs:=by
 refine Ty.ind (C:=fun t=>∀ cs,RepT K w t cs->RepT (fun b=>b<w.heap.size) w t cs) ?_ t;intro k t n ps fs vs ihp ihf ihv cs h;obtain⟨A,c,A',c',A'',c'',rfl,ht,⟨pb,po,hA,hp⟩,⟨fb,fo,hA',hf⟩,⟨vb,vo,hA'',hv⟩⟩:=h.inv;refine RepT.of ht ⟨pb,po,hA.low (fun hl=>?_),fun i h=>?_⟩ ⟨fb,fo,hA'.low (fun hl=>World.block_lt_of_cell? _ _ (hf 0 hl).1),fun i h=>?_⟩ ⟨vb,vo,hA''.low (fun hl=>?_),fun i h=>?_⟩
 ·obtain⟨cs,h1,h2⟩:=hp 0 hl;have h6:=h2.six;exact World.block_lt_of_cell? _ _ (h1 0 _ (List.getElem?_eq_getElem (by omega)))
 ·obtain⟨cs,h1,h2⟩:=hp i h;exact⟨cs,h1,ihp _ (List.getElem_mem h) cs h2⟩
 ·obtain⟨h1,h2,h3,cs,h4,h5⟩:=hf i h;exact⟨h1,h2,h3,cs,h4,ihf _ (List.getElem_mem h) cs h5⟩
 ·obtain⟨B,d,h1,_⟩:=hv 0 hl;exact World.block_lt_of_cell? _ _ h1
 ·obtain⟨B,d,h1,h2,h3,⟨b,o,h4,h5⟩⟩:=hv i h;refine⟨B,d,h1,h2,h3,⟨b,o,h4.low (fun hl=>?_),fun j h'=>?_⟩⟩
  ·obtain⟨cs,h6,h7⟩:=h5 0 hl;have h8:=h7.six;exact World.block_lt_of_cell? _ _ (h6 0 _ (List.getElem?_eq_getElem (by omega)))
  ·obtain⟨cs,h6,h7⟩:=h5 j h';exact⟨cs,h6,ihv _ (List.getElem_mem h) _ (List.getElem_mem h') cs h7⟩
theorem AtT.keepG {w w':World} {t:Ty} {b o g:Nat} (h:AtT (fun x=>x<g) w t b o) (hb:b<g) (hB:Below g w w'):AtT (fun x=>x<g) w' t b o:=
 h.keep (fun _ h=>h) (fun b _ _ hk hc=>(World.cell?_of_block (hB.block b hk)).trans hc) (fun _ _ hc=>(World.cell?_of_block (hB.block b hb)).trans hc)
def Jbt (w:World) (g L x:Nat):Ending->World->Prop:=fun e w'=>e=.returned (.tuple #[])/\w'.cell? ⟨g,0,none⟩=some (.int .i64 ((L - x:Nat):Int))/\w'.frozen? ⟨g,0,none⟩=false/\Below g w w'
def Xn (w:World) (b o g x:Nat):Prop:=∀ L:Nat,w.cell? ⟨g,0,none⟩=some (.int .i64 (L:Int))->w.frozen? ⟨g,0,none⟩=false->L<=4097->Calls Tryz.prog 89 #[.pointer (some ⟨b,o,none⟩),.pointer (some ⟨g,0,none⟩)] w (Jbt w g L x)
def Nm (t:Ty):Prop:=∀ (w:World) (b o g:Nat),AtT (fun x=>x<g) w t b o->b<g->Xn w b o g (Ai t)
theorem Vh {l:List Ty} {i:Nat} (h:i<l.length):An (l.drop i)=Ai l[i]+An (l.drop (i+1)):=by rw[List.drop_eq_getElem_cons h];rfl
theorem Vf {l:Bp} {i:Nat} (h:i<l.length):Bd (l.drop i)=Ai l[i].2.2+Bd (l.drop (i+1)):=by rw[List.drop_eq_getElem_cons h];rfl
theorem Vm {l:Bm} {i:Nat} (h:i<l.length):Be (l.drop i)=An l[i].2+Be (l.drop (i+1)):=by rw[List.drop_eq_getElem_cons h];rfl
theorem Qj {ps:List Ty} {w wr:World} {A:Option Addr} {c i g:Nat} (hP:ListT (fun x=>x<g) w ps A c) (h:∀ p∈ps,Nm p) (hi:i<ps.length) (hB:Below g w wr):∃ b o x,A=some ⟨b,o,none⟩/\An (ps.drop i)=x+An (ps.drop (i+1))/\Xn wr b (o+i*6) g x:=by
 obtain⟨b,o,hA,hb,hr⟩:=hP.at (by omega);exact⟨b,o,_,hA,Vh hi,h _ (List.getElem_mem hi) wr b _ g ((hr i hi).keepG hb hB) hb⟩
theorem Jed {fs:Bp} {w wr:World} {A:Option Addr} {c i g:Nat} (hP:ListF (fun x=>x<g) w fs A c) (h:∀ f∈fs,Nm f.2.2) (hi:i<fs.length) (hB:Below g w wr):∃ b o x,A=some ⟨b,o,none⟩/\Bd (fs.drop i)=x+Bd (fs.drop (i+1))/\Xn wr b (o+i*8+2) g x:=by
 obtain⟨b,o,hA,hb,hr⟩:=hP.at (by omega);exact⟨b,o,_,hA,Vf hi,h _ (List.getElem_mem hi) wr b _ g ((hr i hi).2.2.2.keepG hb hB) hb⟩
theorem Ua {vs:Bm} {w:World} {A:Option Addr} {c i g:Nat} (hP:ListV (fun x=>x<g) w vs A c) (h:∀ v∈vs,∀ b∈v.2,Nm b) (hi:i<vs.length):∃ b o B d,∃ l:List Ty,A=some ⟨b,o,none⟩/\Be (vs.drop i)=An l+Be (vs.drop (i+1))/\(∀ wr,Below g w wr->wr.cell? ⟨b,o+i*2+1,none⟩=some (.slice B l.length d))/\ListT (fun x=>x<g) w l B d/\(∀ p∈l,Nm p):=by
 obtain⟨b,o,hA,hb,hr⟩:=hP.at (by omega);obtain⟨B,d,_,h1,_,h2⟩:=hr i hi;exact⟨b,o,B,d,vs[i].2,hA,Vm hi,fun wr hB=>(World.cell?_of_block (hB.block b hb)).trans h1,h2,h _ (List.getElem_mem hi)⟩
theorem X5 (k:Int) (t:ByteArray) (n:Int) (ps:List Ty) (fs:Bp) (vs:Bm) (hp:∀ p∈ps,Nm p) (hf:∀ f∈fs,Nm f.2.2) (hv:∀ v∈vs,∀ b∈v.2,Nm b):Nm (.mk k t n ps fs vs):=by
 intro w b o g ha hbg L hc hfz hL;obtain⟨A,c,A2,c2,A3,c3,⟨-,-,-,x3,x4,x5⟩,-,hP,hF,hV⟩:=ha.six;have HX:Hid (∀ wx,Below g w wx->wx.cell? ⟨b,o+3,none⟩=some (.slice A ps.length c)/\wx.cell? ⟨b,o+4,none⟩=some (.slice A2 fs.length c2)/\wx.cell? ⟨b,o+5,none⟩=some (.slice A3 vs.length c3)):=Hd fun wx hB=>⟨(World.cell?_of_block (hB.block b hbg)).trans x3,(World.cell?_of_block (hB.block b hbg)).trans x4,(World.cell?_of_block (hB.block b hbg)).trans x5⟩;have HP:=Hd hP;have HF:=Hd hF;have HV:=Hd hV;have HIp:=Hd hp;have HIf:=Hd hf;have HIv:=Hd hv;have hlp:=hP.short;have hlf:=hF.shortF;have hlv:vs.length<=1000000000000000:=by obtain⟨_,_,hr,_⟩:=hV;exact hr.big
 clear ha hP hF hV hp hf hv;rw[Br];by_cases h0:L=0
 ·subst h0;go_enter Tryz.func89,Tryz.ntmps89;go_wp2_with fail;refine bodyPost_ret (v:=.tuple #[]) (by simp[results,Tryz.results89,go_sem]) rfl ?_;exact⟨rfl,by rw[hc];simp,hfz,Below.refl _ _⟩
 have t0:(((L:Nat):Int) == 0)=false:=beq_eq_false_iff_ne.2 (by omega);have HL:Hid (L<=4097):=Hd hL;have HL0:Hid (L≠0):=Hd h0;have HG:=Hd hbg;have wr0:wrap64 ((L:Int) - 1)=((L - 1:Nat):Int):=by rw[Cf (by omega) (by omega)];omega
 have hB1:∀ v,Below g w (w.setCell ⟨g,0,none⟩ v):=fun v=>(Below.refl g w).setCell (p:=(⟨g,0,none⟩:Addr)) (Nat.le_refl g) v;have HB1:=Hd hB1;have HC1:Hid ((w.setCell ⟨g,0,none⟩ (.int .i64 ((L - 1:Nat):Int))).cell? ⟨g,0,none⟩=some (.int .i64 ((L - 1:Nat):Int))/\(w.setCell ⟨g,0,none⟩ (.int .i64 ((L - 1:Nat):Int))).frozen? ⟨g,0,none⟩=false):=Hd ⟨World.cell?_setCell_same _ _ _ hc,by rw[World.frozen?_setCell,hfz]⟩;clear hL h0 hbg hB1;go_enter Tryz.func89,Tryz.ntmps89;go_wp2_with fail;clear x3 x4 x5 t0 wr0 hc hfz
 go_loopw [4] (fun v wr=>∃ (i x1:Nat),i<=ps.length/\v=.int .i64 i/\x1<=4097/\x1 - An (ps.drop i)=(L - 1) - An ps/\wr.cell? ⟨g,0,none⟩=some (.int .i64 (x1:Int))/\wr.frozen? ⟨g,0,none⟩=false/\Below g w wr) (fun v _=>ps.length - (intOf v).toNat)
 case atStart=>exact⟨0,L - 1,by omega,by first | rfl | simp,by have:=HL.out;omega,by rw[List.drop_zero],HC1.out.1,HC1.out.2,HB1.out _⟩
 case round=>
  obtain⟨i,x1,hi,rfl,hx,hs,hcx,hfx,hB⟩:=hrel;have HS:=Hd hs;have HB:=Hd hB;obtain⟨y3,y4,y5⟩:=HX.out _ hB;by_cases hin:i<ps.length/\0<x1
  ·have t1:decide ((i:Int)<(ps.length:Int))=true:=by simp;omega
   have t2:0<x1:=by omega
   have HIn:=Hd hin;obtain⟨pb,po,q,hA,htk,hN⟩:=Qj HP.out HIp.out hin.1 HB.out;subst hA;have KN:=Hd (hN x1 hcx hfx hx);have HT:=Hd (by rw[htk] at hs;omega:x1 - q - An (ps.drop (i+1))=(L - 1) - An ps);have hq:x1 - q<=4097:=by omega
   have wr2:wrap64 ((i:Int)+1)=((i+1:Nat):Int):=Ao (by omega);have hii:=hin.1;clear hin hi hs hB hN htk;go_wp2_with fail;refine KN.out.mono ?_;rintro e w2 ⟨rfl,hc2,hf2,hb2⟩;have HC2:=Hd (And.intro hc2 hf2);have HB2:=Hd (HB.out.trans hb2);clear hb2 KN hc2 hf2 hcx hfx y3 y4 y5;go_wp2_with fail;refine⟨⟨i+1,x1 - q,HIn.out.1,by first | rfl | rw[wr2],hq,HT.out,HC2.out.1,HC2.out.2,HB2.out⟩,?_⟩;first | exact Ba HIn.out.1 | (rw[wr2];exact Ba HIn.out.1)
  ·by_cases hie:i<ps.length
   ·have t1:decide ((i:Int)<(ps.length:Int))=true:=(by simp;omega);have t2:x1=0:=(by omega);have HE1:Hid (x1=(L - 1) - An ps):=Hd (by have h:=HS.out;omega);clear hin hi hs hB;go_wp2_with fail;clear t2;have HC1:=Hd (And.intro hcx hfx);have HBa:=HB;have hx1:=hx;clear hcx hfx y3 y4 y5 HB HS t1 hx
    go_loopw [5] (fun v wr=>∃ (i x2:Nat),i<=fs.length/\v=.int .i64 i/\x2<=4097/\x2 - Bd (fs.drop i)=x1 - Bd fs/\wr.cell? ⟨g,0,none⟩=some (.int .i64 (x2:Int))/\wr.frozen? ⟨g,0,none⟩=false/\Below g w wr) (fun v _=>fs.length - (intOf v).toNat)
    case atStart=>exact⟨0,x1,by omega,rfl,hx1,by rw[List.drop_zero],HC1.out.1,HC1.out.2,HBa.out⟩
    case round=>
     obtain⟨i,x2,hi,rfl,hx,hs,hcx,hfx,hB⟩:=hrel;have HS:=Hd hs;have HB:=Hd hB;obtain⟨y3,y4,y5⟩:=HX.out _ hB;by_cases hin:i<fs.length/\0<x2
     ·have t1:decide ((i:Int)<(fs.length:Int))=true:=(by simp;omega);have t2:0<x2:=(by omega);have HIn:=Hd hin;obtain⟨pb,po,q,hA,htk,hN⟩:=Jed HF.out HIf.out hin.1 HB.out;subst hA;have KN:=Hd (hN x2 hcx hfx hx);have HT:=Hd (by rw[htk] at hs;omega:x2 - q - Bd (fs.drop (i+1))=x1 - Bd fs);have hq:x2 - q<=4097:=(by omega);have wr2:wrap64 ((i:Int)+1)=((i+1:Nat):Int):=Ao (by omega);have hii:=hin.1;clear hin hi hs hB hN htk;go_wp2_with fail;refine KN.out.mono ?_;rintro e w2 ⟨rfl,hc2,hf2,hb2⟩;have HC2:=Hd (And.intro hc2 hf2);have HB2:=Hd (HB.out.trans hb2);clear hb2 KN hc2 hf2 hcx hfx y3 y4 y5;go_wp2_with fail;refine⟨⟨i+1,x2 - q,HIn.out.1,by first | rfl | rw[wr2],hq,HT.out,HC2.out.1,HC2.out.2,HB2.out⟩,?_⟩;first | exact Ba HIn.out.1 | (rw[wr2];exact Ba HIn.out.1)
     ·by_cases hie:i<fs.length
      ·have t1:decide ((i:Int)<(fs.length:Int))=true:=(by simp;omega);have t2:x2=0:=(by omega);have HE2:Hid (x2=x1 - Bd fs):=Hd (by have h:=HS.out;omega);clear hin hi hs hB;go_wp2_with fail;clear t2;have HC2:=Hd (And.intro hcx hfx);have HBb:=HB;have hx2:=hx;clear hcx hfx y3 y4 y5 HB HS t1 hx
       go_loopw [6] (fun v wr=>∃ (i x:Nat),i<=vs.length/\v=.int .i64 i/\x<=4097/\x - Be (vs.drop i)=x2 - Be vs/\wr.cell? ⟨g,0,none⟩=some (.int .i64 (x:Int))/\wr.frozen? ⟨g,0,none⟩=false/\Below g w wr) (fun v _=>vs.length - (intOf v).toNat)
       case atStart=>exact⟨0,x2,by omega,rfl,hx2,by rw[List.drop_zero],HC2.out.1,HC2.out.2,HBb.out⟩
       case round=>
        obtain⟨i,x,hi,rfl,hx,hs,hcx,hfx,hB⟩:=hrel;have HS:=Hd hs;have HB:=Hd hB;obtain⟨y3,y4,y5⟩:=HX.out _ hB;by_cases hin:i<vs.length/\0<x
        ·have t1:decide ((i:Int)<(vs.length:Int))=true:=(by simp;omega);have t2:0<x:=(by omega);have HIn:=Hd hin;obtain⟨vb,vo,B,d,l,hA,htk,hcell,hL2,hI2⟩:=Ua HV.out HIv.out hin.1;subst hA;have HTk:=Hd htk;have HZ:=Hd hcell;have HL2:=Hd hL2;have HI2:=Hd hI2;have hll:=hL2.short;have HIn3:=HIn;have HS3:=HS;have wr3:wrap64 ((i:Int)+1)=((i+1:Nat):Int):=Ao (by omega);have hii:i<vs.length:=hin.1;have HC3:=Hd (And.intro hcx hfx);have hx3:=hx;have z5:=hcell _ hB;have HB3:=HB;clear hin hi hs hB htk hcell hL2 hI2 HIn HS HB;go_wp2_with fail;clear t1 t2 hcx hfx y3 y4 y5 z5 hx;generalize hxo:x=xo at HC3 hx3 HS3;clear hxo
         go_loopw [7] (fun v wx=>∃ (j x:Nat),j<=l.length/\v=.int .i64 j/\x<=4097/\x - An (l.drop j)=xo - An l/\wx.cell? ⟨g,0,none⟩=some (.int .i64 (x:Int))/\wx.frozen? ⟨g,0,none⟩=false/\Below g w wx) (fun v _=>l.length - (intOf v).toNat)
         case atStart=>exact⟨0,xo,by omega,rfl,hx3,by rw[List.drop_zero],HC3.out.1,HC3.out.2,HB3.out⟩
         case round=>
          obtain⟨j,x,hj,rfl,hx,hs,hcx,hfx,hB⟩:=hrel;have HS:=Hd hs;have HB:=Hd hB;obtain⟨y3,y4,y5⟩:=HX.out _ hB;have z5:=HZ.out _ hB;by_cases hin:j<l.length/\0<x
          ·have t1:decide ((j:Int)<(l.length:Int))=true:=(by simp;omega);have t2:0<x:=(by omega);have HIn:=Hd hin;obtain⟨pb,po,q,hA,htk,hN⟩:=Qj HL2.out HI2.out hin.1 HB.out;subst hA;have KN:=Hd (hN x hcx hfx hx);have HT:=Hd (by rw[htk] at hs;omega:x - q - An (l.drop (j+1))=xo - An l);have hq:x - q<=4097:=(by omega);have wr2:wrap64 ((j:Int)+1)=((j+1:Nat):Int):=Ao (by omega);have hjj:=hin.1;clear hin hj hs hB hN htk;go_wp2_with fail;refine KN.out.mono ?_;rintro e w2 ⟨rfl,hc2,hf2,hb2⟩;have HC2:=Hd (And.intro hc2 hf2);have HB2:=Hd (HB.out.trans hb2);clear hb2 KN hc2 hf2 hcx hfx y3 y4 y5 z5;go_wp2_with fail;refine⟨⟨j+1,x - q,HIn.out.1,by first | rfl | rw[wr2],hq,HT.out,HC2.out.1,HC2.out.2,HB2.out⟩,?_⟩;first | exact Ba HIn.out.1 | (rw[wr2];exact Ba HIn.out.1)
          ·by_cases hje:j<l.length
           ·have t1:decide ((j:Int)<(l.length:Int))=true:=(by simp;omega);have t2:x=0:=(by omega);have HE4:Hid (x=xo - An l):=Hd (by have h:=HS.out;omega);clear hin hj hs hB;go_wp2_with fail;refine⟨⟨i+1,x,HIn3.out.1,by first | rfl | rw[wr3],hx,by have h1:=HE4.out;have h2:=HS3.out;rw[HTk.out] at h2;omega,hcx,hfx,HB.out⟩,?_⟩;first | exact Ba HIn3.out.1 | (rw[wr3];exact Ba HIn3.out.1)
           ·have t1:decide ((j:Int)<(l.length:Int))=false:=(by simp;omega);have HE4:Hid (x=xo - An l):=Hd (by have h:=HS.out;rw[List.drop_eq_nil_of_le (by omega)] at h;simpa [An] using h);clear hin hj hs hB;go_wp2_with fail;refine⟨⟨i+1,x,HIn3.out.1,by first | rfl | rw[wr3],hx,by have h1:=HE4.out;have h2:=HS3.out;rw[HTk.out] at h2;omega,hcx,hfx,HB.out⟩,?_⟩;first | exact Ba HIn3.out.1 | (rw[wr3];exact Ba HIn3.out.1)
        ·by_cases hie:i<vs.length
         ·have t1:decide ((i:Int)<(vs.length:Int))=true:=(by simp;omega);have t2:x=0:=(by omega);have HE3:Hid (x=x2 - Be vs):=Hd (by have h:=HS.out;omega);clear hin hi hs hB;go_wp2_with fail;clear t2;refine bodyPost_ret (v:=.tuple #[]) (by simp[results,Tryz.results89,go_sem]) rfl ?_;exact⟨rfl,by rw[hcx];have h1:=HE1.out;have h2:=HE2.out;have h3:=HE3.out;congr 3;omega,hfx,HB.out⟩
         ·have t1:decide ((i:Int)<(vs.length:Int))=false:=(by simp;omega);have HE3:Hid (x=x2 - Be vs):=Hd (by have h:=HS.out;rw[List.drop_eq_nil_of_le (by omega)] at h;simpa [Be] using h);clear hin hi hs hB;go_wp2_with fail;refine bodyPost_ret (v:=.tuple #[]) (by simp[results,Tryz.results89,go_sem]) rfl ?_;exact⟨rfl,by rw[hcx];have h1:=HE1.out;have h2:=HE2.out;have h3:=HE3.out;congr 3;omega,hfx,HB.out⟩
      ·have t1:decide ((i:Int)<(fs.length:Int))=false:=(by simp;omega);have HE2:Hid (x2=x1 - Bd fs):=Hd (by have h:=HS.out;rw[List.drop_eq_nil_of_le (by omega)] at h;simpa [Bd] using h);clear hin hi hs hB;go_wp2_with fail;have HC2:=Hd (And.intro hcx hfx);have HBb:=HB;have hx2:=hx;clear hcx hfx y3 y4 y5 HB HS t1 hx
       go_loopw [6] (fun v wr=>∃ (i x:Nat),i<=vs.length/\v=.int .i64 i/\x<=4097/\x - Be (vs.drop i)=x2 - Be vs/\wr.cell? ⟨g,0,none⟩=some (.int .i64 (x:Int))/\wr.frozen? ⟨g,0,none⟩=false/\Below g w wr) (fun v _=>vs.length - (intOf v).toNat)
       case atStart=>exact⟨0,x2,by omega,rfl,hx2,by rw[List.drop_zero],HC2.out.1,HC2.out.2,HBb.out⟩
       case round=>
        obtain⟨i,x,hi,rfl,hx,hs,hcx,hfx,hB⟩:=hrel;have HS:=Hd hs;have HB:=Hd hB;obtain⟨y3,y4,y5⟩:=HX.out _ hB;by_cases hin:i<vs.length/\0<x
        ·have t1:decide ((i:Int)<(vs.length:Int))=true:=(by simp;omega);have t2:0<x:=(by omega);have HIn:=Hd hin;obtain⟨vb,vo,B,d,l,hA,htk,hcell,hL2,hI2⟩:=Ua HV.out HIv.out hin.1;subst hA;have HTk:=Hd htk;have HZ:=Hd hcell;have HL2:=Hd hL2;have HI2:=Hd hI2;have hll:=hL2.short;have HIn3:=HIn;have HS3:=HS;have wr3:wrap64 ((i:Int)+1)=((i+1:Nat):Int):=Ao (by omega);have hii:i<vs.length:=hin.1;have HC3:=Hd (And.intro hcx hfx);have hx3:=hx;have z5:=hcell _ hB;have HB3:=HB;clear hin hi hs hB htk hcell hL2 hI2 HIn HS HB;go_wp2_with fail;clear t1 t2 hcx hfx y3 y4 y5 z5 hx;generalize hxo:x=xo at HC3 hx3 HS3;clear hxo
         go_loopw [7] (fun v wx=>∃ (j x:Nat),j<=l.length/\v=.int .i64 j/\x<=4097/\x - An (l.drop j)=xo - An l/\wx.cell? ⟨g,0,none⟩=some (.int .i64 (x:Int))/\wx.frozen? ⟨g,0,none⟩=false/\Below g w wx) (fun v _=>l.length - (intOf v).toNat)
         case atStart=>exact⟨0,xo,by omega,rfl,hx3,by rw[List.drop_zero],HC3.out.1,HC3.out.2,HB3.out⟩
         case round=>
          obtain⟨j,x,hj,rfl,hx,hs,hcx,hfx,hB⟩:=hrel;have HS:=Hd hs;have HB:=Hd hB;obtain⟨y3,y4,y5⟩:=HX.out _ hB;have z5:=HZ.out _ hB;by_cases hin:j<l.length/\0<x
          ·have t1:decide ((j:Int)<(l.length:Int))=true:=(by simp;omega);have t2:0<x:=(by omega);have HIn:=Hd hin;obtain⟨pb,po,q,hA,htk,hN⟩:=Qj HL2.out HI2.out hin.1 HB.out;subst hA;have KN:=Hd (hN x hcx hfx hx);have HT:=Hd (by rw[htk] at hs;omega:x - q - An (l.drop (j+1))=xo - An l);have hq:x - q<=4097:=(by omega);have wr2:wrap64 ((j:Int)+1)=((j+1:Nat):Int):=Ao (by omega);have hjj:=hin.1;clear hin hj hs hB hN htk;go_wp2_with fail;refine KN.out.mono ?_;rintro e w2 ⟨rfl,hc2,hf2,hb2⟩;have HC2:=Hd (And.intro hc2 hf2);have HB2:=Hd (HB.out.trans hb2);clear hb2 KN hc2 hf2 hcx hfx y3 y4 y5 z5;go_wp2_with fail;refine⟨⟨j+1,x - q,HIn.out.1,by first | rfl | rw[wr2],hq,HT.out,HC2.out.1,HC2.out.2,HB2.out⟩,?_⟩;first | exact Ba HIn.out.1 | (rw[wr2];exact Ba HIn.out.1)
          ·by_cases hje:j<l.length
           ·have t1:decide ((j:Int)<(l.length:Int))=true:=(by simp;omega);have t2:x=0:=(by omega);have HE4:Hid (x=xo - An l):=Hd (by have h:=HS.out;omega);clear hin hj hs hB;go_wp2_with fail;refine⟨⟨i+1,x,HIn3.out.1,by first | rfl | rw[wr3],hx,by have h1:=HE4.out;have h2:=HS3.out;rw[HTk.out] at h2;omega,hcx,hfx,HB.out⟩,?_⟩;first | exact Ba HIn3.out.1 | (rw[wr3];exact Ba HIn3.out.1)
           ·have t1:decide ((j:Int)<(l.length:Int))=false:=(by simp;omega);have HE4:Hid (x=xo - An l):=Hd (by have h:=HS.out;rw[List.drop_eq_nil_of_le (by omega)] at h;simpa [An] using h);clear hin hj hs hB;go_wp2_with fail;refine⟨⟨i+1,x,HIn3.out.1,by first | rfl | rw[wr3],hx,by have h1:=HE4.out;have h2:=HS3.out;rw[HTk.out] at h2;omega,hcx,hfx,HB.out⟩,?_⟩;first | exact Ba HIn3.out.1 | (rw[wr3];exact Ba HIn3.out.1)
        ·by_cases hie:i<vs.length
         ·have t1:decide ((i:Int)<(vs.length:Int))=true:=(by simp;omega);have t2:x=0:=(by omega);have HE3:Hid (x=x2 - Be vs):=Hd (by have h:=HS.out;omega);clear hin hi hs hB;go_wp2_with fail;clear t2;refine bodyPost_ret (v:=.tuple #[]) (by simp[results,Tryz.results89,go_sem]) rfl ?_;exact⟨rfl,by rw[hcx];have h1:=HE1.out;have h2:=HE2.out;have h3:=HE3.out;congr 3;omega,hfx,HB.out⟩
         ·have t1:decide ((i:Int)<(vs.length:Int))=false:=(by simp;omega);have HE3:Hid (x=x2 - Be vs):=Hd (by have h:=HS.out;rw[List.drop_eq_nil_of_le (by omega)] at h;simpa [Be] using h);clear hin hi hs hB;go_wp2_with fail;refine bodyPost_ret (v:=.tuple #[]) (by simp[results,Tryz.results89,go_sem]) rfl ?_;exact⟨rfl,by rw[hcx];have h1:=HE1.out;have h2:=HE2.out;have h3:=HE3.out;congr 3;omega,hfx,HB.out⟩
   ·have t1:decide ((i:Int)<(ps.length:Int))=false:=(by simp;omega);have HE1:Hid (x1=(L - 1) - An ps):=Hd (by have h:=HS.out;rw[List.drop_eq_nil_of_le (by omega)] at h;simpa [An] using h);clear hin hi hs hB;go_wp2_with fail;have HC1:=Hd (And.intro hcx hfx);have HBa:=HB;have hx1:=hx;clear hcx hfx y3 y4 y5 HB HS t1 hx
    go_loopw [5] (fun v wr=>∃ (i x2:Nat),i<=fs.length/\v=.int .i64 i/\x2<=4097/\x2 - Bd (fs.drop i)=x1 - Bd fs/\wr.cell? ⟨g,0,none⟩=some (.int .i64 (x2:Int))/\wr.frozen? ⟨g,0,none⟩=false/\Below g w wr) (fun v _=>fs.length - (intOf v).toNat)
    case atStart=>exact⟨0,x1,by omega,rfl,hx1,by rw[List.drop_zero],HC1.out.1,HC1.out.2,HBa.out⟩
    case round=>
     obtain⟨i,x2,hi,rfl,hx,hs,hcx,hfx,hB⟩:=hrel;have HS:=Hd hs;have HB:=Hd hB;obtain⟨y3,y4,y5⟩:=HX.out _ hB;by_cases hin:i<fs.length/\0<x2
     ·have t1:decide ((i:Int)<(fs.length:Int))=true:=(by simp;omega);have t2:0<x2:=(by omega);have HIn:=Hd hin;obtain⟨pb,po,q,hA,htk,hN⟩:=Jed HF.out HIf.out hin.1 HB.out;subst hA;have KN:=Hd (hN x2 hcx hfx hx);have HT:=Hd (by rw[htk] at hs;omega:x2 - q - Bd (fs.drop (i+1))=x1 - Bd fs);have hq:x2 - q<=4097:=(by omega);have wr2:wrap64 ((i:Int)+1)=((i+1:Nat):Int):=Ao (by omega);have hii:=hin.1;clear hin hi hs hB hN htk;go_wp2_with fail;refine KN.out.mono ?_;rintro e w2 ⟨rfl,hc2,hf2,hb2⟩;have HC2:=Hd (And.intro hc2 hf2);have HB2:=Hd (HB.out.trans hb2);clear hb2 KN hc2 hf2 hcx hfx y3 y4 y5;go_wp2_with fail;refine⟨⟨i+1,x2 - q,HIn.out.1,by first | rfl | rw[wr2],hq,HT.out,HC2.out.1,HC2.out.2,HB2.out⟩,?_⟩;first | exact Ba HIn.out.1 | (rw[wr2];exact Ba HIn.out.1)
     ·by_cases hie:i<fs.length
      ·have t1:decide ((i:Int)<(fs.length:Int))=true:=(by simp;omega);have t2:x2=0:=(by omega);have HE2:Hid (x2=x1 - Bd fs):=Hd (by have h:=HS.out;omega);clear hin hi hs hB;go_wp2_with fail;clear t2;have HC2:=Hd (And.intro hcx hfx);have HBb:=HB;have hx2:=hx;clear hcx hfx y3 y4 y5 HB HS t1 hx
       go_loopw [6] (fun v wr=>∃ (i x:Nat),i<=vs.length/\v=.int .i64 i/\x<=4097/\x - Be (vs.drop i)=x2 - Be vs/\wr.cell? ⟨g,0,none⟩=some (.int .i64 (x:Int))/\wr.frozen? ⟨g,0,none⟩=false/\Below g w wr) (fun v _=>vs.length - (intOf v).toNat)
       case atStart=>exact⟨0,x2,by omega,rfl,hx2,by rw[List.drop_zero],HC2.out.1,HC2.out.2,HBb.out⟩
       case round=>
        obtain⟨i,x,hi,rfl,hx,hs,hcx,hfx,hB⟩:=hrel;have HS:=Hd hs;have HB:=Hd hB;obtain⟨y3,y4,y5⟩:=HX.out _ hB;by_cases hin:i<vs.length/\0<x
        ·have t1:decide ((i:Int)<(vs.length:Int))=true:=(by simp;omega);have t2:0<x:=(by omega);have HIn:=Hd hin;obtain⟨vb,vo,B,d,l,hA,htk,hcell,hL2,hI2⟩:=Ua HV.out HIv.out hin.1;subst hA;have HTk:=Hd htk;have HZ:=Hd hcell;have HL2:=Hd hL2;have HI2:=Hd hI2;have hll:=hL2.short;have HIn3:=HIn;have HS3:=HS;have wr3:wrap64 ((i:Int)+1)=((i+1:Nat):Int):=Ao (by omega);have hii:i<vs.length:=hin.1;have HC3:=Hd (And.intro hcx hfx);have hx3:=hx;have z5:=hcell _ hB;have HB3:=HB;clear hin hi hs hB htk hcell hL2 hI2 HIn HS HB;go_wp2_with fail;clear t1 t2 hcx hfx y3 y4 y5 z5 hx;generalize hxo:x=xo at HC3 hx3 HS3;clear hxo
         go_loopw [7] (fun v wx=>∃ (j x:Nat),j<=l.length/\v=.int .i64 j/\x<=4097/\x - An (l.drop j)=xo - An l/\wx.cell? ⟨g,0,none⟩=some (.int .i64 (x:Int))/\wx.frozen? ⟨g,0,none⟩=false/\Below g w wx) (fun v _=>l.length - (intOf v).toNat)
         case atStart=>exact⟨0,xo,by omega,rfl,hx3,by rw[List.drop_zero],HC3.out.1,HC3.out.2,HB3.out⟩
         case round=>
          obtain⟨j,x,hj,rfl,hx,hs,hcx,hfx,hB⟩:=hrel;have HS:=Hd hs;have HB:=Hd hB;obtain⟨y3,y4,y5⟩:=HX.out _ hB;have z5:=HZ.out _ hB;by_cases hin:j<l.length/\0<x
          ·have t1:decide ((j:Int)<(l.length:Int))=true:=(by simp;omega);have t2:0<x:=(by omega);have HIn:=Hd hin;obtain⟨pb,po,q,hA,htk,hN⟩:=Qj HL2.out HI2.out hin.1 HB.out;subst hA;have KN:=Hd (hN x hcx hfx hx);have HT:=Hd (by rw[htk] at hs;omega:x - q - An (l.drop (j+1))=xo - An l);have hq:x - q<=4097:=(by omega);have wr2:wrap64 ((j:Int)+1)=((j+1:Nat):Int):=Ao (by omega);have hjj:=hin.1;clear hin hj hs hB hN htk;go_wp2_with fail;refine KN.out.mono ?_;rintro e w2 ⟨rfl,hc2,hf2,hb2⟩;have HC2:=Hd (And.intro hc2 hf2);have HB2:=Hd (HB.out.trans hb2);clear hb2 KN hc2 hf2 hcx hfx y3 y4 y5 z5;go_wp2_with fail;refine⟨⟨j+1,x - q,HIn.out.1,by first | rfl | rw[wr2],hq,HT.out,HC2.out.1,HC2.out.2,HB2.out⟩,?_⟩;first | exact Ba HIn.out.1 | (rw[wr2];exact Ba HIn.out.1)
          ·by_cases hje:j<l.length
           ·have t1:decide ((j:Int)<(l.length:Int))=true:=(by simp;omega);have t2:x=0:=(by omega);have HE4:Hid (x=xo - An l):=Hd (by have h:=HS.out;omega);clear hin hj hs hB;go_wp2_with fail;refine⟨⟨i+1,x,HIn3.out.1,by first | rfl | rw[wr3],hx,by have h1:=HE4.out;have h2:=HS3.out;rw[HTk.out] at h2;omega,hcx,hfx,HB.out⟩,?_⟩;first | exact Ba HIn3.out.1 | (rw[wr3];exact Ba HIn3.out.1)
           ·have t1:decide ((j:Int)<(l.length:Int))=false:=(by simp;omega);have HE4:Hid (x=xo - An l):=Hd (by have h:=HS.out;rw[List.drop_eq_nil_of_le (by omega)] at h;simpa [An] using h);clear hin hj hs hB;go_wp2_with fail;refine⟨⟨i+1,x,HIn3.out.1,by first | rfl | rw[wr3],hx,by have h1:=HE4.out;have h2:=HS3.out;rw[HTk.out] at h2;omega,hcx,hfx,HB.out⟩,?_⟩;first | exact Ba HIn3.out.1 | (rw[wr3];exact Ba HIn3.out.1)
        ·by_cases hie:i<vs.length
         ·have t1:decide ((i:Int)<(vs.length:Int))=true:=(by simp;omega);have t2:x=0:=(by omega);have HE3:Hid (x=x2 - Be vs):=Hd (by have h:=HS.out;omega);clear hin hi hs hB;go_wp2_with fail;clear t2;refine bodyPost_ret (v:=.tuple #[]) (by simp[results,Tryz.results89,go_sem]) rfl ?_;exact⟨rfl,by rw[hcx];have h1:=HE1.out;have h2:=HE2.out;have h3:=HE3.out;congr 3;omega,hfx,HB.out⟩
         ·have t1:decide ((i:Int)<(vs.length:Int))=false:=(by simp;omega);have HE3:Hid (x=x2 - Be vs):=Hd (by have h:=HS.out;rw[List.drop_eq_nil_of_le (by omega)] at h;simpa [Be] using h);clear hin hi hs hB;go_wp2_with fail;refine bodyPost_ret (v:=.tuple #[]) (by simp[results,Tryz.results89,go_sem]) rfl ?_;exact⟨rfl,by rw[hcx];have h1:=HE1.out;have h2:=HE2.out;have h3:=HE3.out;congr 3;omega,hfx,HB.out⟩
      ·have t1:decide ((i:Int)<(fs.length:Int))=false:=(by simp;omega);have HE2:Hid (x2=x1 - Bd fs):=Hd (by have h:=HS.out;rw[List.drop_eq_nil_of_le (by omega)] at h;simpa [Bd] using h);clear hin hi hs hB;go_wp2_with fail;have HC2:=Hd (And.intro hcx hfx);have HBb:=HB;have hx2:=hx;clear hcx hfx y3 y4 y5 HB HS t1 hx
       go_loopw [6] (fun v wr=>∃ (i x:Nat),i<=vs.length/\v=.int .i64 i/\x<=4097/\x - Be (vs.drop i)=x2 - Be vs/\wr.cell? ⟨g,0,none⟩=some (.int .i64 (x:Int))/\wr.frozen? ⟨g,0,none⟩=false/\Below g w wr) (fun v _=>vs.length - (intOf v).toNat)
       case atStart=>exact⟨0,x2,by omega,rfl,hx2,by rw[List.drop_zero],HC2.out.1,HC2.out.2,HBb.out⟩
       case round=>
        obtain⟨i,x,hi,rfl,hx,hs,hcx,hfx,hB⟩:=hrel;have HS:=Hd hs;have HB:=Hd hB;obtain⟨y3,y4,y5⟩:=HX.out _ hB;by_cases hin:i<vs.length/\0<x
        ·have t1:decide ((i:Int)<(vs.length:Int))=true:=(by simp;omega);have t2:0<x:=(by omega);have HIn:=Hd hin;obtain⟨vb,vo,B,d,l,hA,htk,hcell,hL2,hI2⟩:=Ua HV.out HIv.out hin.1;subst hA;have HTk:=Hd htk;have HZ:=Hd hcell;have HL2:=Hd hL2;have HI2:=Hd hI2;have hll:=hL2.short;have HIn3:=HIn;have HS3:=HS;have wr3:wrap64 ((i:Int)+1)=((i+1:Nat):Int):=Ao (by omega);have hii:i<vs.length:=hin.1;have HC3:=Hd (And.intro hcx hfx);have hx3:=hx;have z5:=hcell _ hB;have HB3:=HB;clear hin hi hs hB htk hcell hL2 hI2 HIn HS HB;go_wp2_with fail;clear t1 t2 hcx hfx y3 y4 y5 z5 hx;generalize hxo:x=xo at HC3 hx3 HS3;clear hxo
         go_loopw [7] (fun v wx=>∃ (j x:Nat),j<=l.length/\v=.int .i64 j/\x<=4097/\x - An (l.drop j)=xo - An l/\wx.cell? ⟨g,0,none⟩=some (.int .i64 (x:Int))/\wx.frozen? ⟨g,0,none⟩=false/\Below g w wx) (fun v _=>l.length - (intOf v).toNat)
         case atStart=>exact⟨0,xo,by omega,rfl,hx3,by rw[List.drop_zero],HC3.out.1,HC3.out.2,HB3.out⟩
         case round=>
          obtain⟨j,x,hj,rfl,hx,hs,hcx,hfx,hB⟩:=hrel;have HS:=Hd hs;have HB:=Hd hB;obtain⟨y3,y4,y5⟩:=HX.out _ hB;have z5:=HZ.out _ hB;by_cases hin:j<l.length/\0<x
          ·have t1:decide ((j:Int)<(l.length:Int))=true:=(by simp;omega);have t2:0<x:=(by omega);have HIn:=Hd hin;obtain⟨pb,po,q,hA,htk,hN⟩:=Qj HL2.out HI2.out hin.1 HB.out;subst hA;have KN:=Hd (hN x hcx hfx hx);have HT:=Hd (by rw[htk] at hs;omega:x - q - An (l.drop (j+1))=xo - An l);have hq:x - q<=4097:=(by omega);have wr2:wrap64 ((j:Int)+1)=((j+1:Nat):Int):=Ao (by omega);have hjj:=hin.1;clear hin hj hs hB hN htk;go_wp2_with fail;refine KN.out.mono ?_;rintro e w2 ⟨rfl,hc2,hf2,hb2⟩;have HC2:=Hd (And.intro hc2 hf2);have HB2:=Hd (HB.out.trans hb2);clear hb2 KN hc2 hf2 hcx hfx y3 y4 y5 z5;go_wp2_with fail;refine⟨⟨j+1,x - q,HIn.out.1,by first | rfl | rw[wr2],hq,HT.out,HC2.out.1,HC2.out.2,HB2.out⟩,?_⟩;first | exact Ba HIn.out.1 | (rw[wr2];exact Ba HIn.out.1)
          ·by_cases hje:j<l.length
           ·have t1:decide ((j:Int)<(l.length:Int))=true:=(by simp;omega);have t2:x=0:=(by omega);have HE4:Hid (x=xo - An l):=Hd (by have h:=HS.out;omega);clear hin hj hs hB;go_wp2_with fail;refine⟨⟨i+1,x,HIn3.out.1,by first | rfl | rw[wr3],hx,by have h1:=HE4.out;have h2:=HS3.out;rw[HTk.out] at h2;omega,hcx,hfx,HB.out⟩,?_⟩;first | exact Ba HIn3.out.1 | (rw[wr3];exact Ba HIn3.out.1)
           ·have t1:decide ((j:Int)<(l.length:Int))=false:=(by simp;omega);have HE4:Hid (x=xo - An l):=Hd (by have h:=HS.out;rw[List.drop_eq_nil_of_le (by omega)] at h;simpa [An] using h);clear hin hj hs hB;go_wp2_with fail;refine⟨⟨i+1,x,HIn3.out.1,by first | rfl | rw[wr3],hx,by have h1:=HE4.out;have h2:=HS3.out;rw[HTk.out] at h2;omega,hcx,hfx,HB.out⟩,?_⟩;first | exact Ba HIn3.out.1 | (rw[wr3];exact Ba HIn3.out.1)
        ·by_cases hie:i<vs.length
         ·have t1:decide ((i:Int)<(vs.length:Int))=true:=(by simp;omega);have t2:x=0:=(by omega);have HE3:Hid (x=x2 - Be vs):=Hd (by have h:=HS.out;omega);clear hin hi hs hB;go_wp2_with fail;clear t2;refine bodyPost_ret (v:=.tuple #[]) (by simp[results,Tryz.results89,go_sem]) rfl ?_;exact⟨rfl,by rw[hcx];have h1:=HE1.out;have h2:=HE2.out;have h3:=HE3.out;congr 3;omega,hfx,HB.out⟩
         ·have t1:decide ((i:Int)<(vs.length:Int))=false:=(by simp;omega);have HE3:Hid (x=x2 - Be vs):=Hd (by have h:=HS.out;rw[List.drop_eq_nil_of_le (by omega)] at h;simpa [Be] using h);clear hin hi hs hB;go_wp2_with fail;refine bodyPost_ret (v:=.tuple #[]) (by simp[results,Tryz.results89,go_sem]) rfl ?_;exact⟨rfl,by rw[hcx];have h1:=HE1.out;have h2:=HE2.out;have h3:=HE3.out;congr 3;omega,hfx,HB.out⟩
theorem Jb9 (t:Ty):Nm t:=Ty.ind (C:=Nm) (fun k t n ps fs vs hp hf hv=>X5 k t n ps fs vs hp hf hv) t
theorem J5 {K:Nat->Prop} {w:World} {t:Ty} {cs:List Value} (h:RepT K w t cs) :
  Calls Tryz.prog 52 #[.agg cs.toArray] w fun e w'=>e=.returned (.int .i64 (Cg (Ai t):Nat))/\Below w.heap.size w w':=by
 have hlow:=RepT.low t cs h;have hb1:Below w.heap.size w ((w.alloc (.cells cs.toArray 26)).alloc (.cells #[.int .i64 4097] 3)):=((Below.refl _ _).alloc (Nat.le_refl _) _).alloc (by simp) _;have hb2:Below (w.heap.size+1) (w.alloc (.cells cs.toArray 26)) ((w.alloc (.cells cs.toArray 26)).alloc (.cells #[.int .i64 4097] 3)):=(Below.refl _ _).alloc (by simp) _;have a1:AtT (fun x=>x<w.heap.size+1) (w.alloc (.cells cs.toArray 26)) t w.heap.size 0:=(AtT.box _ hlow).keep (fun _ h=>Nat.lt_succ_of_lt h) (fun _ _ _ _ h=>h) (fun _ _ h=>h);have KC:=Hd (Jb9 t _ w.heap.size 0 (w.heap.size+1) (a1.keepG (Nat.lt_succ_self _) hb2) (Nat.lt_succ_self _) 4097 (by simp) (by simp) (by omega));have HB:=Hd hb1;have HC:Hid ((4097:Int) - ((4097 - Ai t:Nat):Int)=((Cg (Ai t):Nat):Int)):=Hd (by unfold Cg;omega);have hy:((4097 - Ai t:Nat):Int)<=4097:=by omega
 obtain⟨k,s,n,ps,fs,vs⟩:=t;obtain⟨A,c,A',c',A'',c'',rfl,_⟩:=h.inv;generalize Cg (Ai (.mk k s n ps fs vs))=r at HC ⊢;generalize Ai (.mk k s n ps fs vs)=q at KC HC hy;simp only[Ar] at KC HB ⊢;clear h hlow hb1 hb2 a1;go_enter Tryz.func52,Tryz.ntmps52;go_wp2_with fail;refine KC.out.mono ?_;rintro e w2 ⟨rfl,hc2,hf2,hb2⟩;have HB2:=Hd (HB.out.trans (hb2.mono (by omega)));generalize 4097 - q=y at *;have wr1:wrap64 ((4097:Int) - (y:Int))=(r:Int):=by have:=HC.out;rw[Cf (by omega) (by omega)];exact this
 clear hb2;go_wp2_with fail;go_ret
 exact⟨by first | rw[wr1] | (rw[<-HC.out];rfl),HB2.out⟩
theorem Oo {K:Nat->Prop} {w:World} {t:Ty} {cs:List Value} (h:RepT K w t cs):∀ u∈cs,u.oneCell'=true:=by
 obtain⟨k,s,n,ps,fs,vs⟩:=t;obtain⟨A,c,A',c',A'',c'',rfl,-⟩:=h.inv;intro u hu;simp only[Ar,List.mem_cons,List.not_mem_nil,or_false] at hu;rcases hu with rfl | rfl | rfl | rfl | rfl | rfl <;> rfl
theorem Kf {K:Nat->Prop} {w:World} {l:List Ty} {b o:Nat} (h:∀ i (h:i<l.length),AtT K w l[i] b (o+i*6)) :
  ∃ news:List Value,news.length=l.length*6/\(∀ j u,news[j]?=some u->w.cell? ⟨b,o+j,none⟩=some u)/\(∀ u∈news,u.oneCell'=true)/\∀ i (h:i<l.length),∃ cs,RepT K w l[i] cs/\∀ j u,cs[j]?=some u->news[i*6+j]?=some u:=by
 have key:∀ n,n<=l.length->∃ news:List Value,news.length=n*6/\(∀ j u,news[j]?=some u->w.cell? ⟨b,o+j,none⟩=some u)/\(∀ u∈news,u.oneCell'=true)/\∀ i (h:i<l.length),i<n->∃ cs,RepT K w l[i] cs/\∀ j u,cs[j]?=some u->news[i*6+j]?=some u:=by
  intro n
  induction n with
  | zero=>intro _;exact⟨[],rfl,fun j u h=>by simp at h,fun u h=>by simp at h,fun i _ h=>absurd h (by omega)⟩
  | succ n ih=>
   intro hn;obtain⟨news,h1,h2,h3,h4⟩:=ih (by omega);obtain⟨cs,h5,h6⟩:=h n (by omega);have h7:=h6.six;refine⟨news++cs,by rw[List.length_append];omega,fun j u hj=>?_,fun u hu=>?_,fun i hi hin=>?_⟩
   ·by_cases hlt:j<news.length
    ·rw[List.getElem?_append_left hlt] at hj;exact h2 j u hj
    ·rw[List.getElem?_append_right (by omega)] at hj;have:=h5 _ _ hj;rw[<-this];congr 2;omega
   ·rcases List.mem_append.1 hu with hu | hu
    ·exact h3 u hu
    ·exact Oo h6 u hu
   ·by_cases hlt:i<n
    ·obtain⟨cs',h8,h9⟩:=h4 i hi hlt;refine⟨cs',h8,fun j u hj=>?_⟩;have h10:=h9 j u hj;rw[List.getElem?_append_left (List.getElem?_eq_some_iff.1 h10).1];exact h10
    ·obtain rfl:i=n:=by omega
     refine⟨cs,h6,fun j u hj=>?_⟩;rw[List.getElem?_append_right (by omega),show i*6+j - news.length=j from by omega];exact hj
 obtain⟨news,h1,h2,h3,h4⟩:=key l.length (Nat.le_refl _);exact⟨news,h1,h2,h3,fun i hi=>h4 i hi hi⟩
theorem OutT.many {K:Nat->Prop} {w0 w':World} {v':Value} {ts l:List Ty} {vs news:List Value} (hl:vs.length=ts.length*6) (h:∀ i (h:i<ts.length),∃ cs,RepT K w0 ts[i] cs/\∀ j u,cs[j]?=some u->vs[i*6+j]?=some u)
  (ht:∀ i (h:i<l.length),∃ cs,RepT K w0 l[i] cs/\∀ j u,cs[j]?=some u->news[i*6+j]?=some u) (ho:w'.ownsRow w0.heap.size 26 6 v' (ts.length+l.length) (vs++news)):OutT K w0 w' v' (ts++l):=by
 refine⟨⟨vs++news,by rw[List.length_append];exact ho,fun i hi=>?_⟩⟩;rw[List.length_append] at hi;by_cases hlt:i<ts.length
 ·obtain⟨cs',h1,h2⟩:=h i hlt;refine⟨cs',by rw[List.getElem_append_left hlt];exact h1,fun j u hj=>?_⟩;have h3:=h2 j u hj;rw[List.getElem?_append_left (List.getElem?_eq_some_iff.1 h3).1];exact h3
 ·obtain⟨cs,h1,h2⟩:=ht (i - ts.length) (by omega);refine⟨cs,by rw[List.getElem_append_right (by omega)];exact h1,fun j u hj=>?_⟩;rw[List.getElem?_append_right (by omega),show i*6+j - vs.length=(i - ts.length)*6+j from by omega];exact h2 j u hj
theorem Lr:Tryz.prog.underlying 22=some (.slice 26):=by kernel_rfl
theorem Nj {K:Nat->Prop} {w0 w:World} {v:Value} {ts l:List Ty} {A:Option Addr} {c:Nat} {o:Oper} {a:Act} {Kc:Act->World->Prop} {Q:Exit->Act->World->Prop} (s x:Operand)
  (ho:o.op=.call { callee:=.builtin .append,args:=#[s,x],argTypes:=#[22,22] }) (hs:a.eval s=v) (hx:a.eval x=.slice A l.length c)
  (hO:OutT K w0 w v ts) (hL:ListT K w0 l A c) (hb:Below w0.heap.size w0 w) (hsize:ts.length+l.length<=1099511627776)
  (h:∀ v' w',OutT K w0 w' v' (ts++l)->Below w0.heap.size w0 w'->w.grownBy w' v.ownBlock->Kc (a.put o.dst v') w') :
  Oper.wp Tryz.prog o a w Kc Q:=by
 obtain⟨vs,hown,hreps⟩:=hO;obtain⟨i0,hi0,hz0,hz1,hz2⟩:=D4 Hh;obtain⟨b,o',hr,hat⟩:=hL;rcases A with _ | ad
 ·have hl0:l=[]:=by
   rcases l with _ | ⟨y,l⟩
   ·rfl
   ·exact absurd (hr.some (by simp)).1 (by simp)
  subst hl0;have hc0:=hr.none rfl;subst hc0;have hrun:=run_append_owned_none (P:=Tryz.prog) (w:=w) w0.heap.size 22 o.type 26 i0 6 Lr hi0 v ts.length vs hown;unfold Oper.wp execOp;simp only[ho,resolve,invoke,builtin,Sem.run_bind,Sem.run_pure,Result.andThen_ok,List.map_toArray,List.map_cons,List.map_nil,hs,hx,List.length_nil,hrun];exact h v w (by rw[List.append_nil];exact⟨vs,hown,hreps⟩) hb ⟨rfl,rfl,rfl,Nat.le_refl _,fun _ _ _=>rfl⟩
 ·have hat':0<l.length->ad=⟨b,o',none⟩:=fun h0=>by have:=(hr.some h0).1;injection this
  obtain⟨news,h1,h2,h3,h4⟩:=Kf hat;refine Bz s x 22 ho w0.heap.size 26 i0 _ 6 104 Lr hi0 hz0 hz1 hz2 (by decide) (by decide) v ts.length vs hs hown ad l.length c news hx h1 (fun j u hj=>?_) h3 (by simp only[maxLen];omega) (by omega) hb.size ?_
  ·have hj2:=(List.getElem?_eq_some_iff.1 hj).1;have e:=hat' (by omega);subst e;have e2:((⟨b,o',none⟩:Addr).add j)=⟨b,o'+j,none⟩:=by unfold Addr.add;by_cases h0:j=0 <;> simp[h0]
   rw[e2];exact Aa hb (h2 j u hj)
  ·intro v' w' g1 g2 _ _;exact h v' w' (OutT.many hown.1 hreps h4 g1) (hb.grown g2 hb.size fun k hk=>(hown.lt k hk).1) g2
theorem OutT.list {K:Nat->Prop} {w0 w:World} {v:Value} {ts:List Ty} (h:OutT K w0 w v ts) (hlo:∀ b,K b->b<w0.heap.size) (hb:Below w0.heap.size w0 w) (hl:ts.length<=1000000000000000) :
  ∃ A c,v=.slice A ts.length c/\ListT (fun b=>K b\/w0.heap.size<=b) w ts A c:=by
 rcases InT.of_out h with ⟨hv,hn⟩ | ⟨g,c,hv,hg,hi⟩
 ·subst hn;exact⟨none,0,hv,⟨0,0,⟨by simp,by simp,fun _=>rfl,fun h=>absurd h (by simp)⟩,fun i h=>absurd h (by simp)⟩⟩
 ·refine⟨_,c,hv,⟨g,0,⟨hi.le,hl,(fun h=>by cases h),fun _=>⟨rfl,.inr hg⟩⟩,fun i hi2=>?_⟩⟩;obtain⟨cs,h4,h5⟩:=hi.reps i _ (List.getElem?_eq_getElem hi2);refine⟨cs,fun j u hj=>by rw[Nat.zero_add];exact h5 j u hj,RepT.keep (fun _ h=>.inl h) (fun b o v hk hc=>?_) _ _ h4⟩;exact (World.cell?_of_block (hb.block b (hlo b hk))).trans hc
theorem OutT.lit {K:Nat->Prop} {w0 w:World} {t:Ty} {cs:List Value} {g:Nat} (ht:RepT K w0 t cs) (hg:w0.heap.size<=g) (hh:w.heap[g]?=some (.cells cs.toArray 26 (0,0))):OutT K w0 w (.slice (some ⟨g,0,none⟩) 1 1) [t]:=by
 have h6:=ht.six;refine⟨⟨cs,⟨by rw[h6];rfl,.inr ⟨g,1,cs.toArray,rfl,hg,hh,Nat.le_refl _,by decide,by rw[List.size_toArray,h6],?_⟩⟩,fun i hi=>?_⟩⟩
 ·show cs.take (1*6)=cs;exact List.take_of_length_le (by omega)
 ·have:i=0:=by simpa using hi
  subst this;exact⟨cs,ht,fun j u hj=>by rw[Nat.zero_mul,Nat.zero_add];exact hj⟩
end Go.Proofs.YtlpfpehegddcfaaGreatDoor
