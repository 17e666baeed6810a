import Derived.Test.YtlpfpehegddcfaaGreatDoorMv35
namespace Go.Proofs.YtlpfpehegddcfaaGreatDoor
set_option maxRecDepth 100000
set_option maxHeartbeats 64000000
open Go.RowKit
def Fi:Ty->List ByteArray
 | .mk _ t _ ps fs vs=>t :: (vs.map (·.1)++((vs.attach.map fun ⟨v,_⟩=>(v.2.attach.map fun ⟨b,_⟩=>Fi b).flatten).flatten++((ps.attach.map fun ⟨p,_⟩=>Fi p).flatten++(fs.attach.map fun ⟨f,_⟩=>Fi f.2.2).flatten)))
termination_by t=>SizeOf.sizeOf t
decreasing_by
 ·exact E5 ‹_› ‹_›
 ·exact Dt ‹_›
 ·exact Ec ‹_›
theorem Iz (k t n ps fs vs):Fi (.mk k t n ps fs vs)=t :: (vs.map (·.1)++((vs.map fun v=>(v.2.map Fi).flatten).flatten++((ps.map Fi).flatten++(fs.map fun f=>Fi f.2.2).flatten))):=by
 rw[Fi];have h1:(ps.attach.map fun p=>Fi p.1).flatten=(ps.map Fi).flatten:=Cw Fi ps;have h2:(fs.attach.map fun f=>Fi f.1.2.2).flatten=(fs.map fun f=>Fi f.2.2).flatten:=Cw (fun f:ByteArray×Int×Ty=>Fi f.2.2) fs;have h3:(vs.attach.map fun v=>(v.1.2.attach.map fun b=>Fi b.1).flatten).flatten=(vs.map fun v=>(v.2.map Fi).flatten).flatten:=by
  have e:(fun v:{v // v∈vs}=>(v.1.2.attach.map fun b=>Fi b.1).flatten)=fun v:{v // v∈vs}=>(v.1.2.map Fi).flatten:=by
   funext v;exact Cw Fi v.1.2
  rw[e];exact Cw (fun v:ByteArray×List Ty=>(v.2.map Fi).flatten) vs
 rw[h1,h2,h3]
def Wq (y:ByteArray) (l:List Ty):Bool:=l.any fun p=>Cl (Fi p) y
def nmV (y:ByteArray) (l:Bm):Bool:=l.any fun v=>decide (v.1=y) || Wq y v.2
def nmF (y:ByteArray) (l:Bp):Bool:=l.any fun f=>Cl (Fi f.2.2) y
theorem Hx {α:Type} (g:α->List ByteArray) (y:ByteArray) (l:List α):Cl (l.map g).flatten y=l.any fun a=>Cl (g a) y:=by
 rw[Bool.eq_iff_iff,Cy,List.any_eq_true]
 constructor
 ·intro h;obtain⟨m,hm,hy⟩:=List.mem_flatten.1 h;obtain⟨a,ha,rfl⟩:=List.mem_map.1 hm;exact⟨a,ha,Cy.2 hy⟩
 ·rintro⟨a,ha,hy⟩;exact List.mem_flatten.2 ⟨_,List.mem_map_of_mem ha,Cy.1 hy⟩
theorem Pi (l m:List ByteArray) (y:ByteArray):Cl (l++m) y=(Cl l y || Cl m y):=by
 unfold Cl;rw[List.any_append]
theorem Jfc (y:ByteArray) (k t n ps fs vs):Cl (Fi (.mk k t n ps fs vs)) y=(decide (t=y) || (nmV y vs || (Wq y ps || nmF y fs))):=by
 rw[Iz];have h0:∀ l:List ByteArray,Cl (t :: l) y=(decide (t=y) || Cl l y):=fun l=>by unfold Cl;rw[List.any_cons]
 rw[h0,Pi,Pi,Pi,Hx,Hx,Hx];have h1:(Cl (vs.map (·.1)) y || ((vs.any fun a=>Cl ((a.2.map Fi).flatten) y) || ((ps.any fun a=>Cl (Fi a) y) || fs.any fun a=>Cl (Fi a.2.2) y)))=(nmV y vs || (Wq y ps || nmF y fs)):=by
  rw[<-Bool.or_assoc]
  congr 1
  unfold nmV;rw[Bool.eq_iff_iff,Bool.or_eq_true,Cy,List.any_eq_true,List.any_eq_true]
  constructor
  ·rintro (h | ⟨v,hv,h⟩)
   ·obtain⟨v,hv,e⟩:=List.mem_map.1 h;exact⟨v,hv,by rw[decide_eq_true e];rfl⟩
   ·rw[Hx] at h;exact⟨v,hv,by unfold Wq;rw[h,Bool.or_true]⟩
  ·rintro⟨v,hv,h⟩;rw[Bool.or_eq_true,decide_eq_true_iff] at h;rcases h with h | h
   ·exact .inl (h ▸ List.mem_map_of_mem hv)
   ·exact .inr ⟨v,hv,by rw[Hx];exact h⟩
 rw[h1]
theorem Rn (y:ByteArray) {l:List Ty} {i:Nat} (h:i<l.length):Wq y (l.take (i+1))=(Wq y (l.take i) || Cl (Fi (l[i]'h)) y):=by
 unfold Wq;rw[List.take_succ_eq_append_getElem h,List.any_append];simp
theorem Jaf (y:ByteArray) {l:Bm} {i:Nat} (h:i<l.length):nmV y (l.take (i+1))=(nmV y (l.take i) || (decide ((l[i]'h).1=y) || Wq y (l[i]'h).2)):=by
 unfold nmV;rw[List.take_succ_eq_append_getElem h,List.any_append];simp
theorem Jae (y:ByteArray) {l:Bp} {i:Nat} (h:i<l.length):nmF y (l.take (i+1))=(nmF y (l.take i) || Cl (Fi (l[i]'h).2.2) y):=by
 unfold nmF;rw[List.take_succ_eq_append_getElem h,List.any_append];simp
theorem I3 {α:Type} (p:α->Bool) {l:List α} {x:α} (h:x∈l) (hx:p x=true):l.any p=true:=List.any_eq_true.2 ⟨x,h,hx⟩
def Jd5 (t:Ty):Prop:=∀ (K:Nat->Prop) (w:World) (cs:List Value) (y:ByteArray),RepT K w t cs->Calls Tryz.prog 22 #[.agg cs.toArray,.string y] w fun e w'=>e=.returned (.bool (Cl (Fi t) y))/\Below w.heap.size w w'
theorem Xa (t:Ty):Jd5 t:=by
 refine Ty.ind (C:=Jd5) (fun k s n ps fs vs hp hf hv=>?_) t;intro K w cs y hr;obtain⟨A,c,B,d,C,e,rfl,ht,hL,hF,hV⟩:=hr.inv;simp only[Ar];obtain⟨g,hg⟩:∃ g,g=w.heap.size:=⟨_,rfl⟩;obtain⟨w1,hw1⟩:∃ x,x=w.alloc (.cells #[.int .i64 k,.string s,.int .i64 n,.slice A ps.length c,.slice B fs.length d,.slice C vs.length e] 26):=⟨_,rfl⟩;have hb1:Below w.heap.size w w1:=by rw[hw1];exact (Below.refl _ _).alloc (Nat.le_refl _) _
 have hx1:w1.heap[g]?=some (.cells #[.int .i64 k,.string s,.int .i64 n,.slice A ps.length c,.slice B fs.length d,.slice C vs.length e] 26 (0,0)):=by rw[hw1,hg];exact heap_alloc_new w _
 have hgl:=(Array.getElem?_eq_some_iff.1 hx1).1;have HX:Hid (∀ wx,Below w1.heap.size w1 wx->wx.cell? ⟨g,0,none⟩=some (.int .i64 k)/\wx.cell? ⟨g,1,none⟩=some (.string s)/\wx.cell? ⟨g,2,none⟩=some (.int .i64 n)/\wx.cell? ⟨g,3,none⟩=some (.slice A ps.length c)/\wx.cell? ⟨g,4,none⟩=some (.slice B fs.length d)/\wx.cell? ⟨g,5,none⟩=some (.slice C vs.length e)):=Hd fun wx hx=>Fs (Bc hx hgl hx1);have HP:Hid (∀ wx,Below w1.heap.size w1 wx->ListT K wx ps A c):=Hd fun wx hx=>(hL.later hb1).later hx;have HF:Hid (∀ wx,Below w1.heap.size w1 wx->ListF K wx fs B d):=Hd fun wx hx=>hF.but ((ButG.of_below (O:=fun _=>False) hb1).then hx) fun x hk=>⟨fun h=>h,hk⟩;have HV:Hid (∀ wx,Below w1.heap.size w1 wx->ListV K wx vs C e):=Hd fun wx hx=>hV.but ((ButG.of_below (O:=fun _=>False) hb1).then hx) fun x hk=>⟨fun h=>h,hk⟩;have HIP:=Hd hp;have HIF:=Hd hf;have HIV:=Hd hv;have HLN:Hid (ps.length<=1000000000000000/\fs.length<=1000000000000000/\vs.length<=1000000000000000):=Hd (by obtain⟨_,_,r1,-⟩:=hL;obtain⟨_,_,r2,-⟩:=hF;obtain⟨_,_,r3,-⟩:=hV;exact⟨r1.big,r2.big,r3.big⟩);have HB1:=Hd hb1;have HW1:=Hd hw1;have HG:=Hd hg;obtain⟨R,hR⟩:∃ R,R=Cl (Fi (.mk k s n ps fs vs)) y:=⟨_,rfl⟩;rw[<-hR];have HR:Hid (R=(decide (s=y) || (nmV y vs || (Wq y ps || nmF y fs)))):=Hd (by rw[hR];exact Jfc ..);clear hr hL hF hV hp hf hv hg hw1 hb1 hx1 hgl hR;go_enter Tryz.func22,Tryz.ntmps22;go_upto_region 1 with fail
 rw[<-HW1.out,<-HG.out];obtain⟨x0,x1,x2,x3,x4,x5⟩:=HX.out w1 (Below.refl _ _);by_cases hs:s=y
 ·have te:(s.toList == y.toList)=true:=by rw[hs];simp
  have HRT:Hid (R=true):=Hd (by rw[HR.out,decide_eq_true hs];rfl);go_wp2_with fail;go_ret
  exact⟨by rw[HRT.out];rfl,HB1.out⟩
 have te:(s.toList == y.toList)=false:=by rw[eqT];exact decide_eq_false hs
 have HS:=Hd hs;clear hs;go_wp2_with fail;clear te x0 x1 x2 x3 x4 x5
 go_loopw [5] (fun v wr=>∃ i:Nat,i<=vs.length/\v=.int .i64 i/\Below w1.heap.size w1 wr/\nmV y (vs.take i)=false) (fun v _=>vs.length - (intOf v).toNat)
 case atStart=>exact⟨0,Nat.zero_le _,rfl,Below.refl _ _,rfl⟩
 case round=>
  obtain⟨i,hi,rfl,hb,hno⟩:=hrel;have hln:=HLN.out;have HB:=Hd hb;obtain⟨x0,x1,x2,x3,x4,x5⟩:=HX.out wr hb;by_cases hin:i<vs.length
  ·have t1:decide ((i:Int)<(vs.length:Int))=true:=by simp;omega
   have wr2:wrap64 ((i:Int)+1)=((i+1:Nat):Int):=Ao (by omega);have HM:=Hd (Ba hin);have HIn:Hid (i+1<=vs.length):=Hd hin;obtain⟨vb,vo,hA,-,hvat⟩:=(HV.out wr hb).at (Nat.lt_of_le_of_lt (Nat.zero_le i) hin);subst hA;obtain⟨B1,d1,v0,v1,-,hlt⟩:=hvat i hin;have hnx:=Jaf y hin;rw[hno,Bool.false_or] at hnx;have hmem:=List.getElem_mem hin;have HIV2:=Hd (HIV.out (vs[i]'hin) hmem);have HTR:Hid (decide ((vs[i]'hin).1=y)=true\/Wq y (vs[i]'hin).2=true->R=true):=Hd fun h=>by
    rw[HR.out,show nmV y vs=true from I3 _ hmem (by rcases h with h | h <;> simp[h])];simp
   have HNX:=Hd hnx;have HLT:Hid (∀ wx,Below w1.heap.size w1 wx->∃ tb tq,wx.cell? ⟨vb,vo+i*2+1,none⟩=some (.slice B1 (vs[i]'hin).2.length d1)/\(0<(vs[i]'hin).2.length->B1=some ⟨tb,tq,none⟩)/\(vs[i]'hin).2.length<=1000000000000000/\∀ j (h:j<(vs[i]'hin).2.length),AtT K wx ((vs[i]'hin).2[j]'h) tb (tq+j*6)):=Hd fun wx hx=>by
    obtain⟨vb',vo',hA,-,hvat'⟩:=(HV.out wx hx).at (Nat.lt_of_le_of_lt (Nat.zero_le i) hin);injection hA with hA
    injection hA with e1 e2 _
    subst e1;subst e2;obtain⟨B1',d1',-,v1',-,hlt'⟩:=hvat' i hin;have hc:=(Aa (hx:Below w1.heap.size w1 wx) (show w1.cell? ⟨vb,vo+i*2+1,none⟩=some (.slice B1 (vs[i]'hin).2.length d1) from by
     obtain⟨vb2,vo2,hA2,-,hvat2⟩:=(HV.out w1 (Below.refl _ _)).at (Nat.lt_of_le_of_lt (Nat.zero_le i) hin);injection hA2 with hA2
     injection hA2 with e1 e2 _
     subst e1;subst e2;obtain⟨B2,d2,-,v2,-,-⟩:=hvat2 i hin;have h3:=Aa hb v2;rw[v1] at h3;rw[v2,<-h3]))
    rw[v1'] at hc;injection hc with hc
    injection hc with h1 _ h3
    subst h1;subst h3;obtain⟨tb,tq,r,hat⟩:=hlt';exact⟨tb,tq,v1',fun h=>(r.some h).1,r.big,hat⟩
   have i1:(0:Int)<=(i:Int):=by omega
   have i2:(i:Int)<(vs.length:Int):=by omega
   generalize vs[i]'hin=vi at v0 v1 HTR HNX HIV2 HLT;obtain⟨nm,bd⟩:=vi;dsimp only at v0 v1 HTR HNX HIV2 HLT;clear hi hb hno hln hvat hlt hnx hmem;by_cases hnm:nm=y
   ·have te:(nm.toList == y.toList)=true:=(by rw[hnm];simp);have HRT:Hid (R=true):=Hd (HTR.out (.inl (decide_eq_true hnm)));go_wp2_with fail;go_ret
    exact⟨by rw[HRT.out];rfl,HB1.out.trans (HB.out.mono HB1.out.size)⟩
   ·have te:(nm.toList == y.toList)=false:=(by rw[eqT];exact decide_eq_false hnm);have HNM:Hid (decide (nm=y)=false):=Hd (decide_eq_false hnm);clear hnm;go_wp2_with fail;clear te v0 v1 x0 x1 x2 x3 x4 x5;obtain⟨wi,hwi⟩:∃ x:World,x=wr:=⟨_,rfl⟩;have HBI:Hid (Below w1.heap.size w1 wi):=Hd (by rw[hwi];exact HB.out);rw[<-hwi];clear HB hwi
    go_loopw [6] (fun v wj=>∃ j:Nat,j<=bd.length/\v=.int .i64 j/\Below w1.heap.size w1 wj/\Wq y (bd.take j)=false) (fun v _=>bd.length - (intOf v).toNat)
    case atStart=>exact⟨0,Nat.zero_le _,rfl,HBI.out,rfl⟩
    case round=>
     obtain⟨j,hj,rfl,hb,hno⟩:=hrel;have HB:=Hd hb;obtain⟨x0,x1,x2,x3,x4,x5⟩:=HX.out _ hb;obtain⟨tb,tq,v1,hB,hbig,hbat⟩:=HLT.out _ hb;by_cases hjn:j<bd.length
     ·have t2:decide ((j:Int)<(bd.length:Int))=true:=(by simp;omega);have wr3:wrap64 ((j:Int)+1)=((j+1:Nat):Int):=Ao (by omega);have HM2:=Hd (Ba hjn);have HJn:Hid (j+1<=bd.length):=Hd hjn;obtain rfl:=hB (by omega);obtain⟨es,hes,hrq⟩:=hbat j hjn;have hnx:=Rn y hjn;rw[hno,Bool.false_or] at hnx;have hmem:=List.getElem_mem hjn;have hih:=HIV2.out (bd[j]'hjn) hmem;have HTR2:Hid (Cl (Fi (bd[j]'hjn)) y=true->R=true):=Hd fun h=>HTR.out (.inr (I3 _ hmem h));have KH:=Hd (hih K _ es y hrq);have HNX2:=Hd hnx;have j1:(0:Int)<=(j:Int):=(by omega);have j2:(j:Int)<(bd.length:Int):=(by omega);generalize bd[j]'hjn=pi at hrq KH HTR2 HNX2;obtain⟨q,hq⟩:∃ q,q=Cl (Fi pi) y:=⟨_,rfl⟩;rw[<-hq] at KH HTR2 HNX2;clear hj hb hno hbig hbat hB hnx hmem hih hq;obtain⟨k2,s2,n2,ps2,fs2,vs2⟩:=pi;obtain⟨A2,c2,B2,d2,C2,e2,rfl,-⟩:=hrq.inv;simp only[Ar] at hes KH;obtain⟨y0,y1,y2,y3,y4,y5⟩:(wr.cell? ⟨tb,tq+j*6,none⟩=some (.int .i64 k2)/\wr.cell? ⟨tb,tq+j*6+1,none⟩=some (.string s2)/\wr.cell? ⟨tb,tq+j*6+2,none⟩=some (.int .i64 n2)/\wr.cell? ⟨tb,tq+j*6+3,none⟩=some (.slice A2 ps2.length c2)/\wr.cell? ⟨tb,tq+j*6+4,none⟩=some (.slice B2 fs2.length d2)/\wr.cell? ⟨tb,tq+j*6+5,none⟩=some (.slice C2 vs2.length e2)):=⟨hes 0 _ rfl,hes 1 _ rfl,hes 2 _ rfl,hes 3 _ rfl,hes 4 _ rfl,hes 5 _ rfl⟩;clear hes hrq;go_wp2_with fail;refine KH.out.mono ?_;rintro r w5 ⟨rfl,hb5⟩;have HB5:Hid (Below w1.heap.size w1 w5):=Hd (HB.out.trans (hb5.mono HB.out.size));clear hb5 KH y0 y1 y2 y3 y4 y5 v1 x0 x1 x2 x3 x4 x5
      cases q with
      | true=>
       go_wp2_with fail;go_ret
       exact⟨by rw[HTR2.out (by trivial)];rfl,HB1.out.trans (HB5.out.mono HB1.out.size)⟩
      | false=>
       go_wp2_with fail;refine⟨⟨j+1,HJn.out,by first | rfl | rw[wr3],HB5.out,HNX2.out⟩,?_⟩;first | exact HM2.out | (rw[wr3];exact HM2.out)
     ·have t2:decide ((j:Int)<(bd.length:Int))=false:=(by simp;omega);rw[List.take_of_length_le (by omega)] at hno;have HN2:Hid (nmV y (vs.take (i+1))=false):=Hd (by rw[HNX.out,HNM.out,hno];rfl);clear hj hb hno hbat hB hbig;go_wp2_with fail;refine⟨⟨i+1,HIn.out,by first | rfl | rw[wr2],HB.out,HN2.out⟩,?_⟩;first | exact HM.out | (rw[wr2];exact HM.out)
  ·have t1:decide ((i:Int)<(vs.length:Int))=false:=by simp;omega
   rw[List.take_of_length_le (by omega)] at hno;have HNV:=Hd hno;clear hi hb hno hln;go_wp2_with fail;clear t1 hin x0 x1 x2 x3 x4 x5;obtain⟨wi,hwi⟩:∃ x:World,x=wr:=⟨_,rfl⟩;have HBI:Hid (Below w1.heap.size w1 wi):=Hd (by rw[hwi];exact HB.out);rw[<-hwi];clear HB hwi
   go_loopw [7] (fun v wj=>∃ j:Nat,j<=ps.length/\v=.int .i64 j/\Below w1.heap.size w1 wj/\Wq y (ps.take j)=false) (fun v _=>ps.length - (intOf v).toNat)
   case atStart=>exact⟨0,Nat.zero_le _,rfl,HBI.out,rfl⟩
   case round=>
    obtain⟨j,hj,rfl,hb,hno⟩:=hrel;have HB:=Hd hb;have hln:=HLN.out;obtain⟨x0,x1,x2,x3,x4,x5⟩:=HX.out _ hb;by_cases hjn:j<ps.length
    ·have t2:decide ((j:Int)<(ps.length:Int))=true:=(by simp;omega);have wr3:wrap64 ((j:Int)+1)=((j+1:Nat):Int):=Ao (by omega);have HM2:=Hd (Ba hjn);have HJn:Hid (j+1<=ps.length):=Hd hjn;obtain⟨tb,tq,hA,-,hbat⟩:=(HP.out _ hb).at (Nat.lt_of_le_of_lt (Nat.zero_le j) hjn);subst hA;obtain⟨es,hes,hrq⟩:=hbat j hjn;have hnx:=Rn y hjn;rw[hno,Bool.false_or] at hnx;have hmem:=List.getElem_mem hjn;have hih:=HIP.out (ps[j]'hjn) hmem;have HTR2:Hid (Cl (Fi (ps[j]'hjn)) y=true->R=true):=Hd fun h=>by
      rw[HR.out,show Wq y ps=true from I3 _ hmem h];simp
     have KH:=Hd (hih K _ es y hrq);have HNX2:=Hd hnx;have j1:(0:Int)<=(j:Int):=(by omega);have j2:(j:Int)<(ps.length:Int):=(by omega);generalize (ps[j]'hjn)=pi at hrq KH HTR2 HNX2;obtain⟨q,hq⟩:∃ q,q=Cl (Fi pi) y:=⟨_,rfl⟩;rw[<-hq] at KH HTR2 HNX2;clear hj hb hno hln hbat hnx hmem hih hq;obtain⟨k2,s2,n2,ps2,fs2,vs2⟩:=pi;obtain⟨A2,c2,B2,d2,C2,e2,rfl,-⟩:=hrq.inv;simp only[Ar] at hes KH;obtain⟨y0,y1,y2,y3,y4,y5⟩:(wr.cell? ⟨tb,tq+j*6,none⟩=some (.int .i64 k2)/\wr.cell? ⟨tb,tq+j*6+1,none⟩=some (.string s2)/\wr.cell? ⟨tb,tq+j*6+2,none⟩=some (.int .i64 n2)/\wr.cell? ⟨tb,tq+j*6+3,none⟩=some (.slice A2 ps2.length c2)/\wr.cell? ⟨tb,tq+j*6+4,none⟩=some (.slice B2 fs2.length d2)/\wr.cell? ⟨tb,tq+j*6+5,none⟩=some (.slice C2 vs2.length e2)):=⟨hes 0 _ rfl,hes 1 _ rfl,hes 2 _ rfl,hes 3 _ rfl,hes 4 _ rfl,hes 5 _ rfl⟩;clear hes hrq;go_wp2_with fail;refine KH.out.mono ?_;rintro r w5 ⟨rfl,hb5⟩;have HB5:Hid (Below w1.heap.size w1 w5):=Hd (HB.out.trans (hb5.mono HB.out.size));clear hb5 KH y0 y1 y2 y3 y4 y5 x0 x1 x2 x3 x4 x5
     cases q with
     | true=>
      go_wp2_with fail;go_ret
      exact⟨by rw[HTR2.out (by trivial)];rfl,HB1.out.trans (HB5.out.mono HB1.out.size)⟩
     | false=>
      go_wp2_with fail;refine⟨⟨j+1,HJn.out,by first | rfl | rw[wr3],HB5.out,HNX2.out⟩,?_⟩;first | exact HM2.out | (rw[wr3];exact HM2.out)
    ·have t2:decide ((j:Int)<(ps.length:Int))=false:=(by simp;omega);rw[List.take_of_length_le (by omega)] at hno;have HNL:=Hd hno;clear hj hb hno hln;go_wp2_with fail;clear t2 hjn x0 x1 x2 x3 x4 x5;obtain⟨wi2,hwi⟩:∃ x:World,x=wr:=⟨_,rfl⟩;have HBI:Hid (Below w1.heap.size w1 wi2):=Hd (by rw[hwi];exact HB.out);rw[<-hwi];clear HB hwi
     go_loopw [8] (fun v wj=>∃ j:Nat,j<=fs.length/\v=.int .i64 j/\Below w1.heap.size w1 wj/\nmF y (fs.take j)=false) (fun v _=>fs.length - (intOf v).toNat)
     case atStart=>exact⟨0,Nat.zero_le _,rfl,HBI.out,rfl⟩
     case round=>
      obtain⟨j,hj,rfl,hb,hno⟩:=hrel;have HB:=Hd hb;have hln:=HLN.out;obtain⟨x0,x1,x2,x3,x4,x5⟩:=HX.out _ hb;by_cases hjn:j<fs.length
      ·have t2:decide ((j:Int)<(fs.length:Int))=true:=(by simp;omega);have wr3:wrap64 ((j:Int)+1)=((j+1:Nat):Int):=Ao (by omega);have HM2:=Hd (Ba hjn);have HJn:Hid (j+1<=fs.length):=Hd hjn;obtain⟨tb,tq,hA,-,hbat⟩:=(HF.out _ hb).at (Nat.lt_of_le_of_lt (Nat.zero_le j) hjn);subst hA;obtain⟨-,-,-,es,hes,hrq⟩:=hbat j hjn;have hnx:=Jae y hjn;rw[hno,Bool.false_or] at hnx;have hmem:=List.getElem_mem hjn;have hih:=HIF.out (fs[j]'hjn) hmem;have HTR2:Hid (Cl (Fi (fs[j]'hjn).2.2) y=true->R=true):=Hd fun h=>by
        rw[HR.out,show nmF y fs=true from I3 _ hmem h];simp
       have KH:=Hd (hih K _ es y hrq);have HNX2:=Hd hnx;have j1:(0:Int)<=(j:Int):=(by omega);have j2:(j:Int)<(fs.length:Int):=(by omega);generalize (fs[j]'hjn).2.2=pi at hrq KH HTR2 HNX2;obtain⟨q,hq⟩:∃ q,q=Cl (Fi pi) y:=⟨_,rfl⟩;rw[<-hq] at KH HTR2 HNX2;clear hj hb hno hln hbat hnx hmem hih hq;obtain⟨k2,s2,n2,ps2,fs2,vs2⟩:=pi;obtain⟨A2,c2,B2,d2,C2,e2,rfl,-⟩:=hrq.inv;simp only[Ar] at hes KH;obtain⟨y0,y1,y2,y3,y4,y5⟩:(wr.cell? ⟨tb,tq+j*8+2,none⟩=some (.int .i64 k2)/\wr.cell? ⟨tb,tq+j*8+2+1,none⟩=some (.string s2)/\wr.cell? ⟨tb,tq+j*8+2+2,none⟩=some (.int .i64 n2)/\wr.cell? ⟨tb,tq+j*8+2+3,none⟩=some (.slice A2 ps2.length c2)/\wr.cell? ⟨tb,tq+j*8+2+4,none⟩=some (.slice B2 fs2.length d2)/\wr.cell? ⟨tb,tq+j*8+2+5,none⟩=some (.slice C2 vs2.length e2)):=⟨hes 0 _ rfl,hes 1 _ rfl,hes 2 _ rfl,hes 3 _ rfl,hes 4 _ rfl,hes 5 _ rfl⟩;clear hes hrq;go_wp2_with fail;refine KH.out.mono ?_;rintro r w5 ⟨rfl,hb5⟩;have HB5:Hid (Below w1.heap.size w1 w5):=Hd (HB.out.trans (hb5.mono HB.out.size));clear hb5 KH y0 y1 y2 y3 y4 y5 x0 x1 x2 x3 x4 x5
       cases q with
       | true=>
        go_wp2_with fail;go_ret
        exact⟨by rw[HTR2.out (by trivial)];rfl,HB1.out.trans (HB5.out.mono HB1.out.size)⟩
       | false=>
        go_wp2_with fail;refine⟨⟨j+1,HJn.out,by first | rfl | rw[wr3],HB5.out,HNX2.out⟩,?_⟩;first | exact HM2.out | (rw[wr3];exact HM2.out)
      ·have t2:decide ((j:Int)<(fs.length:Int))=false:=(by simp;omega);rw[List.take_of_length_le (by omega)] at hno;have HNF:=Hd hno;clear hj hb hno hln;go_wp2_with fail;go_ret
       exact⟨by rw[HR.out,HNV.out,HNL.out,HNF.out,decide_eq_false HS.out];rfl,HB1.out.trans (HB.out.mono HB1.out.size)⟩
theorem J8 {w:World} {base:Nat} {e:TypeId} {size n:Nat} {v:Value} {xs:List Value} (h:w.ownsRow base e size v n xs) {b:Nat} (hb:v.ownBlock=some b):∃ c,w.heap[b]?=some (.cells c e (0,0)):=by
 rcases h.2 with ⟨hv,-⟩ | ⟨g,cap,cur,hv,hB,hh,-⟩
 ·rw[hv] at hb;cases hb
 ·rw[hv] at hb;have e1:some g=some b:=hb;injection e1 with e1
  subst e1;exact⟨_,hh⟩
theorem Us {B:Nat} {K:Nat->Prop} {w0 w:World} {v v':Value} {l:List ByteArray} {ts:List Ty} (h:NmO B w v l) (ho:OutT K w0 w v' ts) {b:Nat} (h1:v.ownBlock=some b) (h2:v'.ownBlock=some b):False:=by
 obtain⟨c1,e1⟩:=J8 h h1;obtain⟨vs,ho,-⟩:=ho;obtain⟨c2,e2⟩:=J8 ho h2;rw[e1] at e2;injection e2 with e2
 injection e2 with _ e2
 exact absurd e2 (by decide)
theorem EnvP.butM {wk sb:Nat} {n0:ByteArray} {w w':World} {m:Option Nat} {act:Bool} {O:Nat->Prop} (h:EnvP wk sb n0 w m act) (hb:ButG O w w') (hO:∀ x,O x->x=wk\/x=sb\/w.heap.size<=x\/m≠some x):EnvP wk sb n0 w' m act:=by
 cases m with
 | none=>exact h
 | some b=>
  obtain⟨h1,h2,h3,n,h4,h5⟩:=h;refine⟨h1,h2,Nat.lt_of_lt_of_le h3 hb.size,n,h4,h5.keep (hb.block b h3 fun e=>?_)⟩;rcases hO b e with h | h | h | h
  ·exact h2 h
  ·exact h1 h
  ·omega
  ·exact h rfl
theorem Ox (l:List Nat) (i:Nat):(l.take i).sum<=l.sum:=by
 induction l generalizing i with
 | nil=>simp
 | cons a l ih=>
  cases i with
  | zero=>simp
  | succ i=>
   rw[List.take_succ_cons,List.sum_cons,List.sum_cons];exact Nat.add_le_add_left (ih i) _
def Ew (act:Bool) (N:List ByteArray) (x:ByteArray) (t:Ty):Bool:=act && (N.isEmpty || (Bl x t && !Cl N x))
theorem PlV.setq {P:Nat->Prop} {w:World} {g i d q:Nat} {l:Bm} {nm:ByteArray} {b:List Ty} {B:Option Addr} (h:PlV P w g l) (hP:∀ x,P x->x≠g) (hi:i<l.length) (hnm:nm.size<=1000000000000000) (hq:q=b.length) (ht:ListT P w b B d):PlV P (J9 w g (i*2) (.string nm) (.slice B q d)) g (l.set i (nm,b)):=by
 subst hq;exact h.set hP hi hnm ht
theorem Un (x:ByteArray) (ps:List Ty) (vs:Bm):Bl x (D3 ps vs)=(Hr x ps || J1 x vs):=by
 unfold D3;rw[Ef];simp only[Dq,List.any_nil,Bool.not_false,Bool.true_and,J1,Mj,Bool.or_false,Bool.false_or];rw[Id (fun i=>Hv (by decide) (by decide) i)];unfold Hr;rw[List.any_append,List.any_flatten,List.any_map];rfl
theorem Qh (ps:List Ty) (vs:Bm):Ai (D3 ps vs)=1+(An ps+Be vs):=by
 unfold D3;rw[Br,Hu];have:An (vs.map (·.2)).flatten=Be vs:=by
  induction vs with
  | nil=>rfl
  | cons a l ih=>
   rw[List.map_cons,List.flatten_cons,Hu,ih];unfold Be;rw[List.map_cons,List.sum_cons]
 rw[this];show 1+(An ps+Be vs+(Bd []+Be []))=_;unfold Bd Be;simp
theorem Wc {ps:List Ty} {vs:Bm} (hp:∀ p∈ps,Ab p=true/\Da p=true) (hv:∀ v∈vs,∀ b∈v.2,Ab b=true/\Da b=true):Ab (D3 ps vs)=true/\Da (D3 ps vs)=true:=by
 have h:∀ p∈ps++(vs.map (·.2)).flatten,Ab p=true/\Da p=true:=fun p h=>by
  rcases List.mem_append.1 h with h | h
  ·exact hp p h
  ·obtain⟨l,hl,h⟩:=List.mem_flatten.1 h;obtain⟨v,hv2,rfl⟩:=List.mem_map.1 hl;exact hv v hv2 p h
 unfold D3
 constructor
 ·rw[Am,show Ae 12=⟨false,false,false,false,0,-1,true⟩ from rfl,Bool.and_eq_true,List.all_eq_true];refine⟨?_,fun p hp=>(h p hp).1⟩;unfold Aj Bh;simp[Jv];omega
 ·rw[Fv];simp only[List.length_nil,List.all_nil,Bool.true_and,Bool.and_true,List.all_eq_true,Bool.and_eq_true];exact⟨by decide,fun p hp=>(h p hp).2⟩
theorem Sv {n0:ByteArray} {u:Ty} {K Z:Nat->Prop} {wk sb nd:Nat} {w:World} {bp op a g2:Nat} {m:Option Nat} {n:Int} {s:ByteArray} {ps:List Ty} {vs:Bm} {A B C:Option Addr} {c d e:Nat}
  (hat:∀ wx,ButG (fun x=>x=sb\/x=wk\/x=g2) w wx->wx.cell? ⟨bp,op+3,none⟩=some (.slice A ps.length c)/\wx.cell? ⟨bp,op+5,none⟩=some (.slice C vs.length e)) (hP:ListT K w ps A c) (hV:ListV K w vs C e) (hK:∀ x,K x->x<w.heap.size/\x≠sb/\x≠wk/\x≠g2) (hE:∀ wx,ButG (fun x=>x=sb\/x=wk\/x=g2) w wx->EnvP wk sb n0 wx m true) (hS:StaS K Z w sb u nd) (hZs:Z sb) (hZw:Z wk) (hZg:Z g2) (hZl:∀ x,Z x->x<w.heap.size) (hwk:w.heap[wk]?=some (.cells #[.int .i64 (a:Int)] 85 (0,0))) (hws:wk≠sb) (hg2:g2≠sb/\g2≠wk) (hx2:w.heap[g2]?=some (.cells #[.int .i64 13,.string s,.int .i64 n,.slice A ps.length c,.slice B 0 d,.slice C vs.length e] 26 (0,0))) (hct:a+(An ps+Be vs)<=4096) (hfp:∀ p∈ps,Ab p=true/\Da p=true) (ihp:∀ p∈ps,Lw n0 u p) (hv0:vs=[]) (hnd:∀ p∈ps,true=true->(nd=1/\Ai u=1)\/Bl n0 p=false) :
  Calls Tryz.prog 82 #[.pointer (some ⟨wk,0,none⟩),.pointer (some ⟨bp,op,none⟩),.pointer (some ⟨g2,0,none⟩),.map m] w (fun r w'=>r=.returned (.tuple #[])/\∃ A' c' C' e',w'.heap[g2]?=some (.cells #[.int .i64 13,.string s,.int .i64 n,(.slice A' ps.length c'),.slice B 0 d,(.slice C' vs.length e')] 26 (0,0))/\ListT (fun x=>K x\/w.heap.size<=x) w' (ps.map (fun p=>if true=true then Ak n0 u p else p)) A' c'/\ListV (fun x=>K x\/w.heap.size<=x) w' (vs.map (fun v:ByteArray×List Ty=>(v.1,v.2.map (fun p=>if true=true then Ak n0 u p else p)))) C' e'/\w'.heap[wk]?=some (.cells #[.int .i64 ((a+(An ps+Be vs):Nat):Int)] 85 (0,0))/\StaS K Z w' sb u nd/\ButG (fun x=>x=sb\/x=wk\/x=g2) w w'):=by
 have hgl:g2<w.heap.size:=hZl g2 hZg;have hwl:wk<w.heap.size:=hZl wk hZw;have hsl:sb<w.heap.size:=hZl sb hZs;have HLT:Hid (g2<w.heap.size/\wk<w.heap.size/\sb<w.heap.size):=Hd ⟨hgl,hwl,hsl⟩;have HX:=Hd hat;have HP:Hid (∀ wx,ButG (fun x=>x=sb\/x=wk\/x=g2) w wx->ListT K wx ps A c):=Hd fun wx hx=>hP.but hx fun x hk=>⟨fun h=>by have:=hK x hk;rcases h with h | h | h;exact this.2.1 h;exact this.2.2.1 h;exact this.2.2.2 h,hk⟩;have HVV:Hid (∀ wx,ButG (fun x=>x=sb\/x=wk\/x=g2) w wx->ListV K wx vs C e):=Hd fun wx hx=>hV.but hx fun x hk=>⟨fun h=>by have:=hK x hk;rcases h with h | h | h;exact this.2.1 h;exact this.2.2.1 h;exact this.2.2.2 h,hk⟩;have HKK:=Hd hK;have HE:=Hd hE;have HST0:=Hd hS;have HZ:Hid (Z sb/\Z wk/\Z g2/\∀ x,Z x->x<w.heap.size):=Hd ⟨hZs,hZw,hZg,hZl⟩;have HC0:=Hd hwk;have HWS:=Hd hws;have HG2N:=Hd hg2;have HO0:=Hd hx2;have HCT:=Hd hct;have HFP:=Hd hfp;have HIP:=Hd ihp;have hpl:=S4 ps;have HPL:Hid (ps.length<=4096):=Hd (by omega);have KC:=Hd (Nt hP (by omega));subst hv0;have HND:=Hd hnd;clear hat hP hV hK hE hS hZs hZw hZg hZl hwk hws hg2 hx2 hct hfp ihp hgl hwl hsl hpl hnd;go_enter Tryz.func82,Tryz.ntmps82;obtain⟨x3,x5⟩:=HX.out w (ButG.refl _ _);go_wp2_with fail;refine KC.out.mono ?_;rintro r w2 ⟨A5,c5,rfl,ho,hb2⟩;have HB2:=Hd hb2;have hlist:=ho.list (fun b h=>(HKK.out b h).1) hb2 (by have:=HPL.out;omega);clear ho hb2 KC x3 x5;obtain⟨x3,x5⟩:=HX.out w2 (ButG.of_below HB2.out);go_wp2_with fail
 go_loopw [8,9,24] (fun vn vp v wr=>(∃ i:Nat,v=.int .i64 i)/\vn=.slice none 0 0/\vp=.slice A5 ps.length c5/\wr=w2) (fun _ _ _ _=>0)
 case atStart=>exact⟨⟨0,rfl⟩,rfl,rfl,rfl⟩
 case round=>
  obtain⟨⟨i,rfl⟩,rfl,rfl,hwr⟩:=hrel;obtain rfl:w2=wr:=hwr.symm;clear hwr;have t1:decide ((i:Int)<(([]:Bm).length:Int))=false:=by simp
  have t1':decide ((i:Int)<0)=false:=by simp
  have KN:=Hd (N4 (A:=none) (c:=0) (A3:=A5) (l3:=ps.length) (c3:=c5) (A4:=none) (l4:=0) (c4:=0) (A5:=none) (l5:=0) (c5:=0) (k:=12) (n:=0) (s:=⟨#[]⟩) (HE.out w2 (ButG.of_below HB2.out)));go_wp2_with fail;refine KN.out.mono ?_;rintro r w3 ⟨rfl,hb3⟩;have HB3:Hid (Below w.heap.size w w3):=Hd (HB2.out.trans (hb3.mono HB2.out.size));have KV:=Hd (Qa (HVV.out w3 (ButG.of_below HB3.out)));clear hb3 KN x3 x5;obtain⟨x3,x5⟩:=HX.out w3 (ButG.of_below HB3.out);go_wp2_with fail;refine KV.out.mono ?_;rintro r w4 ⟨C',e',rfl,hCn,hb4⟩;have HB4:Hid (Below w.heap.size w w4):=Hd (HB3.out.trans (hb4.mono HB3.out.size));have HCN:=Hd hCn;have hx4:=Bc HB4.out HLT.out.1 HO0.out;obtain⟨w5,hw5⟩:∃ x,x=w4.setCell ⟨g2,5,none⟩ (.slice C' 0 e'):=⟨_,rfl⟩;have HW5:=Hd hw5;have hb45:ButG (fun x=>x=g2) w4 w5:=by rw[hw5];exact (ButG.refl (fun x=>x=g2) w4).put1 5 _
  have hb5:ButG (fun x=>x=sb\/x=wk\/x=g2) w w5:=(ButG.of_below (O:=(fun x=>x=sb\/x=wk\/x=g2)) HB4.out).trans hb45 fun x h=>.inl (.inr (.inr h));have hx5':w5.heap[g2]?=some (.cells #[.int .i64 13,.string s,.int .i64 n,.slice A ps.length c,.slice B 0 d,(.slice C' 0 e')] 26 (0,0)):=by rw[hw5];exact Co hx4 5 _
  have hc5:w5.heap[wk]?=some (.cells #[.int .i64 (a:Int)] 85 (0,0)):=hb45.up (fun e=>HG2N.out.2 e.symm) (Bc HB4.out HLT.out.2.1 HC0.out);have hs5:StaS K Z w5 sb u nd:=(HST0.out.but (ButG.of_below (O:=fun _=>False) HB4.out) (fun h=>h) (fun x h=>h.elim) fun _ _ h=>h).but hb45 (fun e=>HG2N.out.1 e.symm) (fun x h=>.inl (by rw[show x=g2 from h];exact HZ.out.2.2.1)) fun x hx e=>(HKK.out x hx).2.2.2 e;have KA:=Hd (Li (act:=true) (HP.out w5 hb5) (fun x hx=>⟨Nat.lt_of_lt_of_le (HKK.out x hx).1 hb5.size,(HKK.out x hx).2.1,(HKK.out x hx).2.2.1⟩) (HE.out w5 hb5) hs5 HZ.out.1 HZ.out.2.1 (fun x h=>Nat.lt_of_lt_of_le (HZ.out.2.2.2 x h) hb5.size) hc5 HWS.out (by have:=HCT.out;omega) HFP.out (fun p hp _=>HND.out p hp trivial) HIP.out);have HB5:=Hd hb5;have HX5:=Hd hx5';obtain⟨q0,q1,q2,q3,q4,q5,z0,z1,z2,z3,z4,z5⟩:=Jp hx4;clear hb4 hCn hx4 hw5 hb45 hb5 hx5' hc5 hs5 KV x3 x5;go_upto_region 10 with fail
  rw[<-HW5.out];clear q0 q1 q2 q3 q4 q5 z0 z1 z2 z3 z4 z5;obtain⟨-,-,-,-,-,b5⟩:=Fs HX5.out;go_wp2_with fail;clear b5 t1 t1';obtain⟨wl,hwl⟩:∃ x:World,x=w5:=⟨_,rfl⟩;have HWL:=Hd hwl;clear hwl
  go_loopw [59] (fun v wr=>(∃ i:Nat,v=.int .i64 i)/\wr=w5) (fun _ _=>0)
  case atStart=>exact⟨⟨0,rfl⟩,rfl⟩
  case round=>
   obtain⟨⟨j,rfl⟩,hwr⟩:=hrel;obtain rfl:w5=wr:=hwr.symm;clear hwr;have t1:decide ((j:Int)<0)=false:=by simp
   obtain⟨x3,x5⟩:=HX.out w5 HB5.out;go_wp2_with fail;refine KA.out.mono ?_;rintro r w6 ⟨A',c',rfl,hl6,hc6,hs6,hb6⟩;have hx6:=hb6.up (by show ¬ (g2=sb\/g2=wk);have:=HG2N.out;omega) HX5.out;obtain⟨q0,q1,q2,q3,q4,q5,z0,z1,z2,z3,z4,z5⟩:=Jp hx6;have h67:ButG (fun x=>x=g2) w6 (w6.setCell ⟨g2,3,none⟩ (.slice A' ps.length c')):=(ButG.refl (fun x=>x=g2) w6).put1 3 _;have HFIN:Hid (∃ A1 c1 C1 e1,(w6.setCell ⟨g2,3,none⟩ (.slice A' ps.length c')).heap[g2]?=some (.cells #[.int .i64 13,.string s,.int .i64 n,.slice A1 ps.length c1,.slice B 0 d,.slice C1 0 e1] 26 (0,0))/\ListT (fun x=>K x\/w.heap.size<=x) (w6.setCell ⟨g2,3,none⟩ (.slice A' ps.length c')) (ps.map (fun p=>if true=true then Ak n0 u p else p)) A1 c1/\ListV (fun x=>K x\/w.heap.size<=x) (w6.setCell ⟨g2,3,none⟩ (.slice A' ps.length c')) [] C1 e1/\(w6.setCell ⟨g2,3,none⟩ (.slice A' ps.length c')).heap[wk]?=some (.cells #[.int .i64 ((a+(An ps+0):Nat):Int)] 85 (0,0))/\StaS K Z (w6.setCell ⟨g2,3,none⟩ (.slice A' ps.length c')) sb u nd/\ButG (fun x=>x=sb\/x=wk\/x=g2) w (w6.setCell ⟨g2,3,none⟩ (.slice A' ps.length c'))):=Hd ⟨A',c',C',e',Co hx6 3 _,hl6.but h67 fun x hx=>by
     have h1:=HLT.out.1;have h2:=HB5.out.size;rcases hx with hx | hx
     ·exact⟨(HKK.out x hx).2.2.2,.inl hx⟩
     ·exact⟨fun e=>by have e:x=g2:=e;omega,.inr (by omega)⟩,⟨0,0,⟨Nat.zero_le _,Nat.zero_le _,HCN.out,fun h=>absurd h (by simp)⟩,fun i hi=>absurd hi (by simp)⟩,h67.up (fun e=>HG2N.out.2 e.symm) hc6,hs6.but h67 (fun e=>HG2N.out.1 e.symm) (fun x h=>.inl (by rw[show x=g2 from h];exact HZ.out.2.2.1)) (fun x hx e=>(HKK.out x hx).2.2.2 e),(HB5.out.trans hb6 fun x h=>.inl (h.imp id .inl)).trans h67 fun x h=>.inl (.inr (.inr h))⟩
   clear KA x3 x5 hl6 hc6 hs6 hb6 hx6 h67;go_wp2_with fail;exact bodyPost_end (v:=.tuple #[]) (by simp[results,Tryz.results82,go_sem]) rfl ⟨rfl,HFIN.out⟩
end Go.Proofs.YtlpfpehegddcfaaGreatDoor
