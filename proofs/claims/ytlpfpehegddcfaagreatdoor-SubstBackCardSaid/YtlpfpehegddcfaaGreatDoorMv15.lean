import Derived.Test.YtlpfpehegddcfaaGreatDoorMv13
namespace Go.Proofs.YtlpfpehegddcfaaGreatDoor
set_option maxRecDepth 100000
set_option maxHeartbeats 64000000
open Go.RowKit
def Gf (K:Nat->Prop) (w0:World) (F:List Ty) (t:Ty):Ending->World->Prop:=fun e w'=>∃ v',e=.returned v'/\OutT K w0 w' v' (Fc t F)/\Below w0.heap.size w0 w'
theorem Fb {w w':World} {b:Nat} {o:Obj} (h:w.heap[b]?=some o) (hb:Below w.heap.size w w'):w'.heap[b]?=some o:=(hb.block b (Array.getElem?_eq_some_iff.1 h).1).trans h
theorem Ry {w:World} {b:Nat} (x0:Int) (x1:ByteArray) (x2:Int) (x3:Option Addr) (x4 x5:Nat) (x6:Option Addr) (x7 x8:Nat) (x9:Option Addr) (xa xb:Nat) (h:w.heap[b]?=some (.cells #[.int .i64 x0,.string x1,.int .i64 x2,.slice x3 x4 x5,.slice x6 x7 x8,.slice x9 xa xb] 26 (0,0))):w.cell? ⟨b,0,none⟩=some (.int .i64 x0)/\w.cell? ⟨b,1,none⟩=some (.string x1)/\w.cell? ⟨b,2,none⟩=some (.int .i64 x2)/\w.cell? ⟨b,3,none⟩=some (.slice x3 x4 x5)/\w.cell? ⟨b,4,none⟩=some (.slice x6 x7 x8)/\w.cell? ⟨b,5,none⟩=some (.slice x9 xa xb):=⟨cell_of_row _ _ 0 _ _ _ h,cell_of_row _ _ 1 _ _ _ h,cell_of_row _ _ 2 _ _ _ h,cell_of_row _ _ 3 _ _ _ h,cell_of_row _ _ 4 _ _ _ h,cell_of_row _ _ 5 _ _ _ h⟩
theorem Jdb {K':Nat->Prop} {w0 w:World} {g c:Nat} {F:List Ty} {t:Ty} (x0:Int) (x1:ByteArray) (x2:Int) (x3:Option Addr) (x4 x5:Nat) (x6:Option Addr) (x7 x8:Nat) (x9:Option Addr) (xa xb:Nat) (hIN:InT K' w0 w g c F) (hg:w0.heap.size<=g) (hA:Lh F) (ht:RepT K' w0 t [.int .i64 x0,.string x1,.int .i64 x2,.slice x3 x4 x5,.slice x6 x7 x8,.slice x9 xa xb]) (hb:Below w0.heap.size w0 w) (hbd:F.length+1<=1099511627776) :
  Calls Tryz.prog 60 #[.slice (some ⟨g,0,none⟩) F.length c,.agg #[.int .i64 x0,.string x1,.int .i64 x2,.slice x3 x4 x5,.slice x6 x7 x8,.slice x9 xa xb]] w (Gf K' w0 F t):=by
 have hba:Below w.heap.size w (w.alloc (.cells #[.int .i64 x0,.string x1,.int .i64 x2,.slice x3 x4 x5,.slice x6 x7 x8,.slice x9 xa xb] 26)):=(Below.refl _ _).alloc (Nat.le_refl _) _;have HBX:Hid ((w.alloc (.cells #[.int .i64 x0,.string x1,.int .i64 x2,.slice x3 x4 x5,.slice x6 x7 x8,.slice x9 xa xb] 26)).heap[w.heap.size]?=some (.cells #[.int .i64 x0,.string x1,.int .i64 x2,.slice x3 x4 x5,.slice x6 x7 x8,.slice x9 xa xb] 26 (0,0))):=Hd (heap_alloc_new w _);have HIN:=Hd (hIN.later hba);have HOUTK:Hid (∀ wx,Gw (w.alloc (.cells #[.int .i64 x0,.string x1,.int .i64 x2,.slice x3 x4 x5,.slice x6 x7 x8,.slice x9 xa xb] 26)) wx->OutT K' w0 wx (.slice (some ⟨g,0,none⟩) F.length c) F):=Hd fun wx hx=>((hIN.later hba).later hx.below).out hg;have HNE:Hid ((Value.slice (some ⟨g,0,none⟩) F.length c).ownBlock≠some w.heap.size):=Hd (by have:=hIN.lt;simp only[Value.ownBlock,ne_eq,Option.some.injEq];omega);have HA:=Hd hA;have HT:=Hd ht;have HB0:=Hd hb;have HBA:Hid (Below w0.heap.size w0 (w.alloc (.cells #[.int .i64 x0,.string x1,.int .i64 x2,.slice x3 x4 x5,.slice x6 x7 x8,.slice x9 xa xb] 26))):=Hd (hb.alloc hb.size _);have HBD:=Hd hbd;have hlf:F.length<=1099511627776:=by omega
 obtain⟨i0,hi0,hz0,hz1,hz2⟩:=D4 Hh;unfold Gf;clear hIN hg hA ht hb hbd hba;go_enter Tryz.func60,Tryz.ntmps60;go_wp2_with fail
 go_loopw [5] (fun v wr=>∃ k:Nat,k<=F.length/\v=.int .i64 k/\(∀ j (h:j<F.length),k<=j->Bt F[j] t=1)/\Gw (w.alloc (.cells #[.int .i64 x0,.string x1,.int .i64 x2,.slice x3 x4 x5,.slice x6 x7 x8,.slice x9 xa xb] 26)) wr) (fun v _=>(intOf v).toNat)
 case atStart=>exact⟨F.length,Nat.le_refl _,rfl,fun j h hj=>absurd h (by omega),Gw.refl _⟩
 case round=>
  obtain⟨k,hk,rfl,hgt,hb⟩:=hrel;have HGT:=Hd hgt;have HB:=Hd hb;by_cases hk0:k=0
  ·subst hk0;obtain⟨y0,y1,y2,y3,y4,y5⟩:=Ry _ _ _ _ _ _ _ _ _ _ _ _ (Fb HBX.out hb.below);clear hgt hb hk;go_wp2_with fail;refine wp_region_held_drew (S:=(fun _=>True)) (by kernel_rfl) trivial (fun hHeld=>?_);refine Plan.start [0,1,2] ?_
   iterate 3 (refine Plan.tk (so rfl) hHeld ?_;try simp only[Act.put,Ax,Ay,Az])
   refine Plan.done ?_;refine Plan.start [3,4,5,6,7,8,9,10] ?_
   iterate 8 (refine Plan.take (v:=undef) (so rfl) (by kernel_rfl) (by kernel_rfl) (by kernel_rfl) (fun _ _ _ h=>h) (Or.inr ⟨by rfl,rfl⟩) hHeld ?_;try simp only[Act.put,Ax,Ay,Az])
   refine Plan.done ?_;refine Plan.start [11] ?_;refine Plan.tk (so rfl) hHeld ?_;try simp only[Act.put,Ax,Ay,Az]
   refine Plan.done ?_;refine wpAnyH_done (by kernel_rfl) ?_ _;clear hHeld;go_wp2_with fail;refine wp_region_held_drew (S:=(fun _=>True)) (by kernel_rfl) trivial (fun hHeld=>?_);refine Plan.start [0,1,2] ?_
   iterate 3 (refine Plan.tk (so rfl) hHeld ?_;try simp only[Act.put,Ax,Ay,Az])
   refine Plan.done ?_;refine Plan.start [3,4,5,6,7,8,9,10] ?_
   iterate 8 (refine Plan.take (v:=undef) (so rfl) (by kernel_rfl) (by kernel_rfl) (by kernel_rfl) (fun _ _ _ h=>h) (Or.inr ⟨by rfl,rfl⟩) hHeld ?_;try simp only[Act.put,Ax,Ay,Az])
   refine Plan.done ?_;refine Plan.start [11] ?_;refine Plan.tk (so rfl) hHeld ?_;try simp only[Act.put,Ax,Ay,Az]
   refine Plan.done ?_;refine wpAnyH_done (by kernel_rfl) ?_ _;clear hHeld;have HGW:Hid (Gw (w.alloc (.cells #[.int .i64 x0,.string x1,.int .i64 x2,.slice x3 x4 x5,.slice x6 x7 x8,.slice x9 xa xb] 26)) (wr.drew.drew)):=Hd (HB.out.drew.drew);have HKL:Hid (0<=F.length):=Hd (Nat.zero_le _);have HINS:Hid (Fc t F=F.take 0++t :: F.drop 0):=Hd (Ux HA.out (Nat.zero_le _) HGT.out (fun a h ha=>absurd ha (by omega)));obtain⟨vs,hvs,hrs⟩:=HOUTK.out _ HGW.out;have HOw:=Hd (And.intro hvs hrs);have HC2:=Hd (Dn (wr.drew.drew) [.int .i64 x0,.string x1,.int .i64 x2,.slice x3 x4 x5,.slice x6 x7 x8,.slice x9 xa xb] 26);have HBw:Hid (Below w0.heap.size w0 (wr.drew.drew)):=Hd (HBA.out.trans (HGW.out.below.mono HBA.out.size));have hbox:=Fb HBX.out HGW.out.below;have HBOX:=Hd hbox;obtain⟨z0,z1,z2,z3,z4,z5⟩:=Ry _ _ _ _ _ _ _ _ _ _ _ _ hbox;have HOWA:Hid (((wr.alloc (.cells #[.int .i64 x0,.string x1,.int .i64 x2,.slice x3 x4 x5,.slice x6 x7 x8,.slice x9 xa xb] 26)).drew.drew).ownsRow w0.heap.size 26 6 (.slice (some ⟨g,0,none⟩) F.length c) F.length vs):=Hd (HOw.out.1.alloc (.cells #[.int .i64 x0,.string x1,.int .i64 x2,.slice x3 x4 x5,.slice x6 x7 x8,.slice x9 xa xb] 26));clear hvs hrs hbox;go_wp2_with (at_builtin;refine wpList_plain rfl fun K hK=>?_;go_loud (refine Bz _ _ 22 rfl w0.heap.size 26 i0 (.agg #[.int .i64 0,.string ⟨#[]⟩,.int .i64 0,.slice none 0 0,.slice none 0 0,.slice none 0 0]) 6 104 Tryz.underlying22 hi0 hz0 hz1 hz2 rfl (by decide) _ _ _ rfl HOWA.out ⟨wr.heap.size,0,none⟩ 1 1 [.int .i64 x0,.string x1,.int .i64 x2,.slice x3 x4 x5,.slice x6 x7 x8,.slice x9 xa xb] rfl rfl ?a0 ?a1 ?a2 ?a3 ?a4 ?_))
   case a0=>exact HC2.out
   case a1=>
    intro u hu;simp only[List.mem_cons,List.not_mem_nil,or_false] at hu;rcases hu with rfl | rfl | rfl | rfl | rfl | rfl <;> rfl
   case a2=>have:=HBD.out;unfold maxLen;omega
   case a3=>have:=HBD.out;omega
   case a4=>
    have h3:((wr.alloc (.cells #[.int .i64 x0,.string x1,.int .i64 x2,.slice x3 x4 x5,.slice x6 x7 x8,.slice x9 xa xb] 26)).drew.drew).heap.size=(wr).heap.size+1:=World.size_alloc _ _;have h4:(wr).heap.size=(wr.drew.drew).heap.size:=rfl;have h5:=HBw.out.size;show w0.heap.size<=((wr.alloc (.cells #[.int .i64 x0,.string x1,.int .i64 x2,.slice x3 x4 x5,.slice x6 x7 x8,.slice x9 xa xb] 26)).drew.drew).heap.size;omega
   intro v5 w5 hown5 hg5 _ hwhere;refine hK _ _ ?_;clear hK K z0 z1 z2 z3 z4 z5;have hp5:=Gy HBw.out HOw.out.1 HOw.out.2 HT.out hown5 hg5;have hbox5:w5.heap[w.heap.size]?=some (.cells #[.int .i64 x0,.string x1,.int .i64 x2,.slice x3 x4 x5,.slice x6 x7 x8,.slice x9 xa xb] 26 (0,0)):=by
    have hlt:=(Array.getElem?_eq_some_iff.1 HBOX.out).1;have h3:((wr.alloc (.cells #[.int .i64 x0,.string x1,.int .i64 x2,.slice x3 x4 x5,.slice x6 x7 x8,.slice x9 xa xb] 26)).drew.drew).heap.size=(wr).heap.size+1:=World.size_alloc _ _;have h4:(wr).heap.size=(wr.drew.drew).heap.size:=rfl;have h6:((wr.alloc (.cells #[.int .i64 x0,.string x1,.int .i64 x2,.slice x3 x4 x5,.slice x6 x7 x8,.slice x9 xa xb] 26)).drew.drew).heap[w.heap.size]?=(wr).heap[w.heap.size]?:=Below.heap_alloc (wr) _ _ (by omega);exact (hg5.block w.heap.size (by show w.heap.size<((wr.alloc (.cells #[.int .i64 x0,.string x1,.int .i64 x2,.slice x3 x4 x5,.slice x6 x7 x8,.slice x9 xa xb] 26)).drew.drew).heap.size;omega) (fun e=>HNE.out e.symm)).trans (h6.trans HBOX.out)
   rcases InT.of_out hp5.1 with ⟨-,hnil⟩ | ⟨g5,c5,hv5,hgg5,hin5⟩
   ·exact absurd hnil (by simp)
   have hgne:g5≠w.heap.size:=by
    rcases hwhere with h | h
    ·rw[hv5] at h;exact fun e=>HNE.out (by rw[<-h,<-e];rfl)
    ·rw[hv5] at h;have hlt:=(Array.getElem?_eq_some_iff.1 HBOX.out).1;have h2:g5=(wr).heap.size+1:=(by first | exact Option.some.inj h | (have h3:=Option.some.inj h;simpa using h3));have h4:(wr).heap.size=(wr.drew.drew).heap.size:=rfl;omega
   subst hv5;have HIN5:=Hd hin5;have HGE:=Hd hgne;have HGG:=Hd hgg5;have HB5:=Hd hp5.2;have HBOX5:=Hd hbox5;have HLN:Hid ((F++[t]).length=F.length+1):=Hd (by simp);rw[HLN.out];have wr9:wrap64 (((F.length+1:Nat):Int) - 1)=((F.length:Nat):Int):=by have:=HBD.out;rw[Cf (by omega) (by omega)];omega
   clear hown5 hg5 hp5 hbox5 hwhere hin5 hgne hgg5;go_wp2_with fail
   go_loopw [6] (fun v wr=>∃ (i:Nat) (x:Ty),0<=i/\i<=F.length/\v=.int .i64 i/\InT K' w0 wr g5 c5 (F.take i++x :: F.drop i)/\wr.heap[w.heap.size]?=some (.cells #[.int .i64 x0,.string x1,.int .i64 x2,.slice x3 x4 x5,.slice x6 x7 x8,.slice x9 xa xb] 26 (0,0))/\Below w0.heap.size w0 wr) (fun v _=>(intOf v).toNat)
   case atStart=>exact⟨F.length,t,HKL.out,Nat.le_refl _,by first | rfl | rw[wr9],by rw[List.take_length,List.drop_length];exact HIN5.out,HBOX5.out,HB5.out⟩
   case round=>
    obtain⟨i,x,hki,hin,rfl,hrow,hbox,hbr⟩:=hrel;have HROW:=Hd hrow;have HBXR:=Hd hbox;have HBR:=Hd hbr;by_cases hgt:0<i
    ·obtain⟨m,rfl⟩:∃ m,i=m+1:=⟨i - 1,by omega⟩;have hm:m<F.length:=(by omega);have hget:(F.take (m+1)++x :: F.drop (m+1))[m]?=some F[m]:=by
      rw[List.getElem?_append_left (by simp;omega),List.getElem?_take,if_pos (by omega)];exact List.getElem?_eq_getElem hm
     obtain⟨p0,p1,p2,p3,p4,p5,p6,p7,p8,p9,pa,pb,hp,hrp⟩:=hrow.sixAt hget;have hlt1:(F.take (m+1)).length=m+1:=(by simp;omega);obtain⟨r0,r1,r2,r3,r4,r5,r6,r7,r8,r9,ra,rb,hr,-⟩:=hrow.sixAt (i:=m+1) (t:=x) (by rw[List.getElem?_append_right (by omega),hlt1,Nat.sub_self];rfl);have hset:=hrow.set hrp;rw[hlt1] at hset;have HSET:Hid (InT K' w0 (wr.setCells g5 ((m+1)*6) [.int .i64 p0,.string p1,.int .i64 p2,.slice p3 p4 p5,.slice p6 p7 p8,.slice p9 pa pb]) g5 c5 (F.take m++F[m] :: F.drop m)):=Hd (by
      have e1:F.take (m+1)=F.take m++[F[m]]:=List.take_succ_eq_append_getElem hm;rw[e1,List.append_assoc] at hset;rw[List.drop_eq_getElem_cons hm];exact hset)
     have HBS:Hid ((wr.setCells g5 ((m+1)*6) [.int .i64 p0,.string p1,.int .i64 p2,.slice p3 p4 p5,.slice p6 p7 p8,.slice p9 pa pb]).heap[w.heap.size]?=some (.cells #[.int .i64 x0,.string x1,.int .i64 x2,.slice x3 x4 x5,.slice x6 x7 x8,.slice x9 xa xb] 26 (0,0))):=Hd (by rw[Hm (fun e=>HGE.out e.symm)];exact hbox);have HBW:Hid (Below w0.heap.size w0 (wr.setCells g5 ((m+1)*6) [.int .i64 p0,.string p1,.int .i64 p2,.slice p3 p4 p5,.slice p6 p7 p8,.slice p9 pa pb])):=Hd (Ds HGG.out _ _ _ hbr);obtain⟨cur,hcur,-⟩:=hrow.blk;have hfr:∀ o,wr.frozen? ⟨g5,o,none⟩=false:=fun o=>Lib.frozen_of_heap hcur o;obtain⟨p0',p1',p2',p3',p4',p5'⟩:=hp;obtain⟨r0',r1',r2',r3',r4',r5'⟩:=hr;have t1:decide ((0:Int)<((m+1:Nat):Int))=true:=decide_eq_true (by omega);have t2:0<m+1:=hgt;have t3:0<=m:=(by omega);have t4:(0:Int)<=(m:Int):=(by omega);have t5:(0:Int)<(m:Int)+1:=(by omega);have t6:decide ((0:Int)<(m:Int)+1)=true:=decide_eq_true t5;have t7:decide (0<m+1)=true:=decide_eq_true t2;have i0:(0:Int)<=(m:Int):=(by omega);have i1:(m:Int)<(F.length:Int)+1:=(by omega);have i2:(m:Int)+1<(F.length:Int)+1:=(by omega);have wr1:wrap64 (((m+1:Nat):Int) - 1)=((m:Nat):Int):=(by have:=HBD.out;rw[Cf (by omega) (by omega)];omega);have wr3:wrap64 (m:Int)=(m:Int):=Cf (by omega) (by have:=HBD.out;omega);have HKM:Hid (0<=m):=Hd (by omega);have HM1:Hid (m<=F.length):=Hd (by omega);clear hki hin hrow hbox hbr hget hset hrp hcur hlt1 hgt;go_wp2_with fail;refine⟨⟨m,F[m],HKM.out,HM1.out,by first | rfl | (rw[wr1]) | (rw[wr3]),HSET.out,HBS.out,HBW.out⟩,?_⟩;first | (simp only[intOf];omega) | (rw[wr1];simp only[intOf];omega) | (rw[wr3];simp only[intOf];omega)
    ·have hik:i=0:=(by omega);have hset:=hrow.set HT.out;have hlt1:(F.take i).length=i:=(by simp;omega);rw[hlt1] at hset;obtain⟨r0,r1,r2,r3,r4,r5,r6,r7,r8,r9,ra,rb,hr,-⟩:=hrow.sixAt (i:=i) (t:=x) (by rw[List.getElem?_append_right (by omega),hlt1,Nat.sub_self];rfl);have HFIN:Hid (OutT K' w0 (wr.setCells g5 (i*6) [.int .i64 x0,.string x1,.int .i64 x2,.slice x3 x4 x5,.slice x6 x7 x8,.slice x9 xa xb]) (.slice (some ⟨g5,0,none⟩) (F.length+1) c5) (Fc t F)/\Below w0.heap.size w0 (wr.setCells g5 (i*6) [.int .i64 x0,.string x1,.int .i64 x2,.slice x3 x4 x5,.slice x6 x7 x8,.slice x9 xa xb])):=Hd ⟨by
      have h1:=hset.out HGG.out;have e:F.take i++t :: F.drop i=Fc t F:=(by rw[hik];exact HINS.out.symm);have hl:(F.take i++t :: F.drop i).length=F.length+1:=(by simp;omega);rw[hl,e] at h1;exact h1,Ds HGG.out _ _ _ hbr⟩
     obtain⟨cur,hcur,-⟩:=hrow.blk;have hfr:∀ o,wr.frozen? ⟨g5,o,none⟩=false:=fun o=>Lib.frozen_of_heap hcur o;obtain⟨z0,z1,z2,z3,z4,z5⟩:=Ry _ _ _ _ _ _ _ _ _ _ _ _ hbox;obtain⟨r0',r1',r2',r3',r4',r5'⟩:=hr;rw[hik] at HFIN r0' r1' r2' r3' r4' r5';have t1:decide ((0:Int)<(i:Int))=false:=decide_eq_false (by omega);have t2:¬ 0<i:=hgt;have i0:(0:Int)<=(0:Int):=(by omega);have i2:(0:Int)<(F.length:Int)+1:=(by omega);clear hki hin hrow hbox hbr hset hcur hlt1 hik hgt;go_wp2_with fail;go_ret
     exact⟨_,rfl,HFIN.out.1,HFIN.out.2⟩
  ·obtain⟨j,hkj⟩:∃ j,k=j+1:=⟨k - 1,by omega⟩;have hjl:j<F.length:=by omega
   obtain⟨p0,p1,p2,p3,p4,p5,p6,p7,p8,p9,pa,pb,hp,hrp⟩:=(HIN.out.later hb.below).six hjl;have hbox:=Fb HBX.out hb.below;have HBXW:=Hd hbox;have h6:=Ry _ _ _ _ _ _ _ _ _ _ _ _ hbox;have KO:Hid (∀ wx,Below wr.heap.size wr wx->Calls Tryz.prog 20 #[.agg #[.int .i64 p0,.string p1,.int .i64 p2,.slice p3 p4 p5,.slice p6 p7 p8,.slice p9 pa pb],.agg #[.int .i64 x0,.string x1,.int .i64 x2,.slice x3 x4 x5,.slice x6 x7 x8,.slice x9 xa xb]] wx fun e w'=>e=.returned (.int .i64 (Bt F[j] t))/\Gw wx w'):=Hd fun wx hx=>J7 F[j] K' K' t wx _ _ (hrp.later ((HBA.out.trans (hb.below.mono HBA.out.size)).trans (hx.mono (Nat.le_trans HBA.out.size hb.below.size)))) (HT.out.later ((HBA.out.trans (hb.below.mono HBA.out.size)).trans (hx.mono (Nat.le_trans HBA.out.size hb.below.size))));have HC:Hid (∀ wx,Below wr.heap.size wr wx->(wx.cell? ⟨g,j*6,none⟩=some (.int .i64 p0)/\wx.cell? ⟨g,j*6+1,none⟩=some (.string p1)/\wx.cell? ⟨g,j*6+2,none⟩=some (.int .i64 p2)/\wx.cell? ⟨g,j*6+3,none⟩=some (.slice p3 p4 p5)/\wx.cell? ⟨g,j*6+4,none⟩=some (.slice p6 p7 p8)/\wx.cell? ⟨g,j*6+5,none⟩=some (.slice p9 pa pb))/\wx.cell? ⟨w.heap.size,0,none⟩=some (.int .i64 x0)/\wx.cell? ⟨w.heap.size,1,none⟩=some (.string x1)/\wx.cell? ⟨w.heap.size,2,none⟩=some (.int .i64 x2)/\wx.cell? ⟨w.heap.size,3,none⟩=some (.slice x3 x4 x5)/\wx.cell? ⟨w.heap.size,4,none⟩=some (.slice x6 x7 x8)/\wx.cell? ⟨w.heap.size,5,none⟩=some (.slice x9 xa xb)):=Hd fun wx hx=>⟨⟨Aa hx hp.1,Aa hx hp.2.1,Aa hx hp.2.2.1,Aa hx hp.2.2.2.1,Aa hx hp.2.2.2.2.1,Aa hx hp.2.2.2.2.2⟩,⟨Aa hx h6.1,Aa hx h6.2.1,Aa hx h6.2.2.1,Aa hx h6.2.2.2.1,Aa hx h6.2.2.2.2.1,Aa hx h6.2.2.2.2.2⟩⟩;have HBDo:=Hd (F2 F[j] t);have HLT:Hid (Bt F[j] t = -1->∀ a (h:a<F.length),a+1=k->Bt F[a] t = -1):=Hd fun e a h ha=>by
    have:a=j:=by omega
    subst this;exact e
   have HGJ:Hid (Bt F[j] t=1->∀ a (h:a<F.length),j<=a->Bt F[a] t=1):=Hd fun e a h ha=>by
    rcases Nat.lt_or_ge j a with h1 | h1
    ·exact HGT.out a h (by omega)
    ·have:a=j:=by omega
     subst this;exact e
   have HZE:Hid (Bt F[j] t=0->Fc t F=F):=Hd fun e=>Wz HA.out hjl e;have HKJ:=Hd hkj;generalize Bt F[j] t=oo at KO HBDo HLT HGJ HZE;have t1:decide ((0:Int)<(k:Int))=true:=by simp;omega
   have t2:0<k:=by omega
   have wr1:wrap64 ((k:Int) - 1)=((j:Nat):Int):=by rw[Cf (by omega) (by omega)];omega
   have wr1':IntKind.i64.wrap ((k:Int) - 1)=((j:Nat):Int):=by
    have e:IntKind.i64.wrap ((k:Int) - 1)=wrap64 ((k:Int) - 1):=(by unfold wrap64;exact IntKind.wrap_i64 _);rw[e,wr1]
   have i0':(0:Int)<=(j:Int):=by omega
   have i1':(j:Int)<(F.length:Int):=by omega
   have HKF:=Hd hk;clear hgt hb hp hrp hbox h6 hk0 hkj hjl hk;go_wp2_with fail;refine wp_region_held_drew (S:=(fun w'=>(w'.cell? ⟨g,j*6,none⟩=some (.int .i64 p0)/\w'.cell? ⟨g,j*6+1,none⟩=some (.string p1)/\w'.cell? ⟨g,j*6+2,none⟩=some (.int .i64 p2)/\w'.cell? ⟨g,j*6+3,none⟩=some (.slice p3 p4 p5)/\w'.cell? ⟨g,j*6+4,none⟩=some (.slice p6 p7 p8)/\w'.cell? ⟨g,j*6+5,none⟩=some (.slice p9 pa pb))/\w'.cell? ⟨w.heap.size,0,none⟩=some (.int .i64 x0)/\w'.cell? ⟨w.heap.size,1,none⟩=some (.string x1)/\w'.cell? ⟨w.heap.size,2,none⟩=some (.int .i64 x2)/\w'.cell? ⟨w.heap.size,3,none⟩=some (.slice x3 x4 x5)/\w'.cell? ⟨w.heap.size,4,none⟩=some (.slice x6 x7 x8)/\w'.cell? ⟨w.heap.size,5,none⟩=some (.slice x9 xa xb))) (by kernel_rfl) (HC.out _ (Below.refl _ _).drew) (fun hHeld=>?_);refine Plan.start [0,1,2,3,4,5,6,7,8] ?_
   iterate 9 (refine Plan.tk (so rfl) hHeld ?_;try simp only[Act.put,Ax,Ay,Az])
   refine Plan.done ?_;refine wpAnyH_ready (rs:=[9]) (by kernel_rfl) (by simp) ?_;refine AllReadyH.cons (sd (some 18) rfl) (fun K hK=>?_) AllReadyH.nil;go_simp;refine (KO.out _ (Below.refl _ _).drew).mono ?_;rintro e w2 ⟨rfl,hb2⟩;have HB2:=Hd ((Below.refl wr.heap.size wr).drew.trans hb2.below);have HG2:=Hd ((HB.out.drew).trans hb2);clear hb2;go_wp2_with fail;refine hK.out _ _ (HC.out _ HB2.out) (fun hHeld=>?_);clear hK K;try simp only[Act.put,Ax,Ay,Az]
   refine Plan.start [10,11] ?_
   iterate 2 (refine Plan.tk (so rfl) hHeld ?_;try simp only[Act.put,Ax,Ay,Az])
   refine Plan.done ?_;refine wpAnyH_done (by kernel_rfl) ?_ _;clear hHeld;try clear hHeld
   rcases HBDo.out with rfl | rfl | rfl
   ·have u1:decide ((0:Int) < -1)=false:=(by decide);go_wp2_with fail;refine wp_region_held_drew (S:=(fun w'=>(w'.cell? ⟨g,j*6,none⟩=some (.int .i64 p0)/\w'.cell? ⟨g,j*6+1,none⟩=some (.string p1)/\w'.cell? ⟨g,j*6+2,none⟩=some (.int .i64 p2)/\w'.cell? ⟨g,j*6+3,none⟩=some (.slice p3 p4 p5)/\w'.cell? ⟨g,j*6+4,none⟩=some (.slice p6 p7 p8)/\w'.cell? ⟨g,j*6+5,none⟩=some (.slice p9 pa pb))/\w'.cell? ⟨w.heap.size,0,none⟩=some (.int .i64 x0)/\w'.cell? ⟨w.heap.size,1,none⟩=some (.string x1)/\w'.cell? ⟨w.heap.size,2,none⟩=some (.int .i64 x2)/\w'.cell? ⟨w.heap.size,3,none⟩=some (.slice x3 x4 x5)/\w'.cell? ⟨w.heap.size,4,none⟩=some (.slice x6 x7 x8)/\w'.cell? ⟨w.heap.size,5,none⟩=some (.slice x9 xa xb))) (by kernel_rfl) (HC.out _ HB2.out.drew) (fun hHeld=>?_);refine Plan.start [0,1,2,3,4,5,6,7,8] ?_
    iterate 9 (refine Plan.tk (so rfl) hHeld ?_;try simp only[Act.put,Ax,Ay,Az])
    refine Plan.done ?_;refine wpAnyH_ready (rs:=[9]) (by kernel_rfl) (by simp) ?_;refine AllReadyH.cons (sd (some 32) rfl) (fun K hK=>?_) AllReadyH.nil;go_simp;refine (KO.out _ (HB2.out.drew)).mono ?_;rintro e w4 ⟨rfl,hb4⟩;have HB4:=Hd (HB2.out.drew.trans (hb4.below.mono HB2.out.size));have HG4:=Hd ((HG2.out.drew).trans hb4);clear hb4;go_wp2_with fail;refine hK.out _ _ (HC.out _ HB4.out) (fun hHeld=>?_);clear hK K;try simp only[Act.put,Ax,Ay,Az]
    refine Plan.start [10,11] ?_
    iterate 2 (refine Plan.tk (so rfl) hHeld ?_;try simp only[Act.put,Ax,Ay,Az])
    refine Plan.done ?_;refine wpAnyH_done (by kernel_rfl) ?_ _;clear hHeld
    (try clear hHeld)
    clear u1 KO HC HGJ HBDo;clear t1 t2 wr1 wr1' i0' i1';have HGW:Hid (Gw (w.alloc (.cells #[.int .i64 x0,.string x1,.int .i64 x2,.slice x3 x4 x5,.slice x6 x7 x8,.slice x9 xa xb] 26)) (w4)):=Hd (HG4.out);have HKL:Hid (k<=F.length):=Hd (HKF.out);have HINS:Hid (Fc t F=F.take k++t :: F.drop k):=Hd (Ux HA.out HKF.out HGT.out (HLT.out (by first | rfl | trivial)));obtain⟨vs,hvs,hrs⟩:=HOUTK.out _ HGW.out;have HOw:=Hd (And.intro hvs hrs);have HC2:=Hd (Dn (w4) [.int .i64 x0,.string x1,.int .i64 x2,.slice x3 x4 x5,.slice x6 x7 x8,.slice x9 xa xb] 26);have HBw:Hid (Below w0.heap.size w0 (w4)):=Hd (HBA.out.trans (HGW.out.below.mono HBA.out.size));have hbox:=Fb HBX.out HGW.out.below;have HBOX:=Hd hbox;obtain⟨z0,z1,z2,z3,z4,z5⟩:=Ry _ _ _ _ _ _ _ _ _ _ _ _ hbox;have HOWA:Hid ((w4.alloc (.cells #[.int .i64 x0,.string x1,.int .i64 x2,.slice x3 x4 x5,.slice x6 x7 x8,.slice x9 xa xb] 26)).ownsRow w0.heap.size 26 6 (.slice (some ⟨g,0,none⟩) F.length c) F.length vs):=Hd (HOw.out.1.alloc (.cells #[.int .i64 x0,.string x1,.int .i64 x2,.slice x3 x4 x5,.slice x6 x7 x8,.slice x9 xa xb] 26));clear hvs hrs hbox;go_wp2_with (at_builtin;refine wpList_plain rfl fun K hK=>?_;go_loud (refine Bz _ _ 22 rfl w0.heap.size 26 i0 (.agg #[.int .i64 0,.string ⟨#[]⟩,.int .i64 0,.slice none 0 0,.slice none 0 0,.slice none 0 0]) 6 104 Tryz.underlying22 hi0 hz0 hz1 hz2 rfl (by decide) _ _ _ rfl HOWA.out ⟨w4.heap.size,0,none⟩ 1 1 [.int .i64 x0,.string x1,.int .i64 x2,.slice x3 x4 x5,.slice x6 x7 x8,.slice x9 xa xb] rfl rfl ?a0 ?a1 ?a2 ?a3 ?a4 ?_))
    case a0=>exact HC2.out
    case a1=>
     intro u hu;simp only[List.mem_cons,List.not_mem_nil,or_false] at hu;rcases hu with rfl | rfl | rfl | rfl | rfl | rfl <;> rfl
    case a2=>have:=HBD.out;unfold maxLen;omega
    case a3=>have:=HBD.out;omega
    case a4=>
     have h3:(w4.alloc (.cells #[.int .i64 x0,.string x1,.int .i64 x2,.slice x3 x4 x5,.slice x6 x7 x8,.slice x9 xa xb] 26)).heap.size=(w4).heap.size+1:=World.size_alloc _ _;have h4:(w4).heap.size=(w4).heap.size:=rfl;have h5:=HBw.out.size;show w0.heap.size<=(w4.alloc (.cells #[.int .i64 x0,.string x1,.int .i64 x2,.slice x3 x4 x5,.slice x6 x7 x8,.slice x9 xa xb] 26)).heap.size;omega
    intro v5 w5 hown5 hg5 _ hwhere;refine hK _ _ ?_;clear hK K z0 z1 z2 z3 z4 z5;have hp5:=Gy HBw.out HOw.out.1 HOw.out.2 HT.out hown5 hg5;have hbox5:w5.heap[w.heap.size]?=some (.cells #[.int .i64 x0,.string x1,.int .i64 x2,.slice x3 x4 x5,.slice x6 x7 x8,.slice x9 xa xb] 26 (0,0)):=by
     have hlt:=(Array.getElem?_eq_some_iff.1 HBOX.out).1;have h3:(w4.alloc (.cells #[.int .i64 x0,.string x1,.int .i64 x2,.slice x3 x4 x5,.slice x6 x7 x8,.slice x9 xa xb] 26)).heap.size=(w4).heap.size+1:=World.size_alloc _ _;have h4:(w4).heap.size=(w4).heap.size:=rfl;have h6:(w4.alloc (.cells #[.int .i64 x0,.string x1,.int .i64 x2,.slice x3 x4 x5,.slice x6 x7 x8,.slice x9 xa xb] 26)).heap[w.heap.size]?=(w4).heap[w.heap.size]?:=Below.heap_alloc (w4) _ _ (by omega);exact (hg5.block w.heap.size (by show w.heap.size<(w4.alloc (.cells #[.int .i64 x0,.string x1,.int .i64 x2,.slice x3 x4 x5,.slice x6 x7 x8,.slice x9 xa xb] 26)).heap.size;omega) (fun e=>HNE.out e.symm)).trans (h6.trans HBOX.out)
    rcases InT.of_out hp5.1 with ⟨-,hnil⟩ | ⟨g5,c5,hv5,hgg5,hin5⟩
    ·exact absurd hnil (by simp)
    have hgne:g5≠w.heap.size:=by
     rcases hwhere with h | h
     ·rw[hv5] at h;exact fun e=>HNE.out (by rw[<-h,<-e];rfl)
     ·rw[hv5] at h;have hlt:=(Array.getElem?_eq_some_iff.1 HBOX.out).1;have h2:g5=(w4).heap.size+1:=(by first | exact Option.some.inj h | (have h3:=Option.some.inj h;simpa using h3));have h4:(w4).heap.size=(w4).heap.size:=rfl;omega
    subst hv5;have HIN5:=Hd hin5;have HGE:=Hd hgne;have HGG:=Hd hgg5;have HB5:=Hd hp5.2;have HBOX5:=Hd hbox5;have HLN:Hid ((F++[t]).length=F.length+1):=Hd (by simp);rw[HLN.out];have wr9:wrap64 (((F.length+1:Nat):Int) - 1)=((F.length:Nat):Int):=(by have:=HBD.out;rw[Cf (by omega) (by omega)];omega);clear hown5 hg5 hp5 hbox5 hwhere hin5 hgne hgg5;go_wp2_with fail
    go_loopw [6] (fun v wr=>∃ (i:Nat) (x:Ty),k<=i/\i<=F.length/\v=.int .i64 i/\InT K' w0 wr g5 c5 (F.take i++x :: F.drop i)/\wr.heap[w.heap.size]?=some (.cells #[.int .i64 x0,.string x1,.int .i64 x2,.slice x3 x4 x5,.slice x6 x7 x8,.slice x9 xa xb] 26 (0,0))/\Below w0.heap.size w0 wr) (fun v _=>(intOf v).toNat)
    case atStart=>exact⟨F.length,t,HKL.out,Nat.le_refl _,by first | rfl | rw[wr9],by rw[List.take_length,List.drop_length];exact HIN5.out,HBOX5.out,HB5.out⟩
    case round=>
     obtain⟨i,x,hki,hin,rfl,hrow,hbox,hbr⟩:=hrel;have HROW:=Hd hrow;have HBXR:=Hd hbox;have HBR:=Hd hbr;by_cases hgt:k<i
     ·obtain⟨m,rfl⟩:∃ m,i=m+1:=⟨i - 1,by omega⟩;have hm:m<F.length:=(by omega);have hget:(F.take (m+1)++x :: F.drop (m+1))[m]?=some F[m]:=by
       rw[List.getElem?_append_left (by simp;omega),List.getElem?_take,if_pos (by omega)];exact List.getElem?_eq_getElem hm
      obtain⟨p0,p1,p2,p3,p4,p5,p6,p7,p8,p9,pa,pb,hp,hrp⟩:=hrow.sixAt hget;have hlt1:(F.take (m+1)).length=m+1:=(by simp;omega);obtain⟨r0,r1,r2,r3,r4,r5,r6,r7,r8,r9,ra,rb,hr,-⟩:=hrow.sixAt (i:=m+1) (t:=x) (by rw[List.getElem?_append_right (by omega),hlt1,Nat.sub_self];rfl);have hset:=hrow.set hrp;rw[hlt1] at hset;have HSET:Hid (InT K' w0 (wr.setCells g5 ((m+1)*6) [.int .i64 p0,.string p1,.int .i64 p2,.slice p3 p4 p5,.slice p6 p7 p8,.slice p9 pa pb]) g5 c5 (F.take m++F[m] :: F.drop m)):=Hd (by
       have e1:F.take (m+1)=F.take m++[F[m]]:=List.take_succ_eq_append_getElem hm;rw[e1,List.append_assoc] at hset;rw[List.drop_eq_getElem_cons hm];exact hset)
      have HBS:Hid ((wr.setCells g5 ((m+1)*6) [.int .i64 p0,.string p1,.int .i64 p2,.slice p3 p4 p5,.slice p6 p7 p8,.slice p9 pa pb]).heap[w.heap.size]?=some (.cells #[.int .i64 x0,.string x1,.int .i64 x2,.slice x3 x4 x5,.slice x6 x7 x8,.slice x9 xa xb] 26 (0,0))):=Hd (by rw[Hm (fun e=>HGE.out e.symm)];exact hbox);have HBW:Hid (Below w0.heap.size w0 (wr.setCells g5 ((m+1)*6) [.int .i64 p0,.string p1,.int .i64 p2,.slice p3 p4 p5,.slice p6 p7 p8,.slice p9 pa pb])):=Hd (Ds HGG.out _ _ _ hbr);obtain⟨cur,hcur,-⟩:=hrow.blk;have hfr:∀ o,wr.frozen? ⟨g5,o,none⟩=false:=fun o=>Lib.frozen_of_heap hcur o;obtain⟨p0',p1',p2',p3',p4',p5'⟩:=hp;obtain⟨r0',r1',r2',r3',r4',r5'⟩:=hr;have t1:decide ((k:Int)<((m+1:Nat):Int))=true:=decide_eq_true (by omega);have t2:k<m+1:=hgt;have t3:k<=m:=(by omega);have t4:(k:Int)<=(m:Int):=(by omega);have t5:(k:Int)<(m:Int)+1:=(by omega);have t6:decide ((k:Int)<(m:Int)+1)=true:=decide_eq_true t5;have t7:decide (k<m+1)=true:=decide_eq_true t2;have i0:(0:Int)<=(m:Int):=(by omega);have i1:(m:Int)<(F.length:Int)+1:=(by omega);have i2:(m:Int)+1<(F.length:Int)+1:=(by omega);have wr1:wrap64 (((m+1:Nat):Int) - 1)=((m:Nat):Int):=(by have:=HBD.out;rw[Cf (by omega) (by omega)];omega);have wr3:wrap64 (m:Int)=(m:Int):=Cf (by omega) (by have:=HBD.out;omega);have HKM:Hid (k<=m):=Hd (by omega);have HM1:Hid (m<=F.length):=Hd (by omega);clear hki hin hrow hbox hbr hget hset hrp hcur hlt1 hgt;go_wp2_with fail;refine⟨⟨m,F[m],HKM.out,HM1.out,by first | rfl | (rw[wr1]) | (rw[wr3]),HSET.out,HBS.out,HBW.out⟩,?_⟩;first | (simp only[intOf];omega) | (rw[wr1];simp only[intOf];omega) | (rw[wr3];simp only[intOf];omega)
     ·have hik:i=k:=(by omega);have hset:=hrow.set HT.out;have hlt1:(F.take i).length=i:=(by simp;omega);rw[hlt1] at hset;obtain⟨r0,r1,r2,r3,r4,r5,r6,r7,r8,r9,ra,rb,hr,-⟩:=hrow.sixAt (i:=i) (t:=x) (by rw[List.getElem?_append_right (by omega),hlt1,Nat.sub_self];rfl);have HFIN:Hid (OutT K' w0 (wr.setCells g5 (i*6) [.int .i64 x0,.string x1,.int .i64 x2,.slice x3 x4 x5,.slice x6 x7 x8,.slice x9 xa xb]) (.slice (some ⟨g5,0,none⟩) (F.length+1) c5) (Fc t F)/\Below w0.heap.size w0 (wr.setCells g5 (i*6) [.int .i64 x0,.string x1,.int .i64 x2,.slice x3 x4 x5,.slice x6 x7 x8,.slice x9 xa xb])):=Hd ⟨by
       have h1:=hset.out HGG.out;have e:F.take i++t :: F.drop i=Fc t F:=(by rw[hik];exact HINS.out.symm);have hl:(F.take i++t :: F.drop i).length=F.length+1:=(by simp;omega);rw[hl,e] at h1;exact h1,Ds HGG.out _ _ _ hbr⟩
      obtain⟨cur,hcur,-⟩:=hrow.blk;have hfr:∀ o,wr.frozen? ⟨g5,o,none⟩=false:=fun o=>Lib.frozen_of_heap hcur o;obtain⟨z0,z1,z2,z3,z4,z5⟩:=Ry _ _ _ _ _ _ _ _ _ _ _ _ hbox;obtain⟨r0',r1',r2',r3',r4',r5'⟩:=hr;rw[hik] at HFIN r0' r1' r2' r3' r4' r5';have t1:decide ((k:Int)<(i:Int))=false:=decide_eq_false (by omega);have t2:¬ k<i:=hgt;have i0:(0:Int)<=(k:Int):=(by omega);have i2:(k:Int)<(F.length:Int)+1:=(by omega);clear hki hin hrow hbox hbr hset hcur hlt1 hik hgt;go_wp2_with fail;go_ret
      exact⟨_,rfl,HFIN.out.1,HFIN.out.2⟩
   ·go_wp2_with fail;refine wp_region_held_drew (S:=(fun w'=>(w'.cell? ⟨g,j*6,none⟩=some (.int .i64 p0)/\w'.cell? ⟨g,j*6+1,none⟩=some (.string p1)/\w'.cell? ⟨g,j*6+2,none⟩=some (.int .i64 p2)/\w'.cell? ⟨g,j*6+3,none⟩=some (.slice p3 p4 p5)/\w'.cell? ⟨g,j*6+4,none⟩=some (.slice p6 p7 p8)/\w'.cell? ⟨g,j*6+5,none⟩=some (.slice p9 pa pb))/\w'.cell? ⟨w.heap.size,0,none⟩=some (.int .i64 x0)/\w'.cell? ⟨w.heap.size,1,none⟩=some (.string x1)/\w'.cell? ⟨w.heap.size,2,none⟩=some (.int .i64 x2)/\w'.cell? ⟨w.heap.size,3,none⟩=some (.slice x3 x4 x5)/\w'.cell? ⟨w.heap.size,4,none⟩=some (.slice x6 x7 x8)/\w'.cell? ⟨w.heap.size,5,none⟩=some (.slice x9 xa xb))) (by kernel_rfl) (HC.out _ HB2.out.drew) (fun hHeld=>?_);refine Plan.start [0,1,2,3,4,5,6,7,8] ?_
    iterate 9 (refine Plan.tk (so rfl) hHeld ?_;try simp only[Act.put,Ax,Ay,Az])
    refine Plan.done ?_;refine wpAnyH_ready (rs:=[9]) (by kernel_rfl) (by simp) ?_;refine AllReadyH.cons (sd (some 32) rfl) (fun K hK=>?_) AllReadyH.nil;go_simp;refine (KO.out _ (HB2.out.drew)).mono ?_;rintro e w4 ⟨rfl,hb4⟩;have HB4:=Hd (HB2.out.drew.trans (hb4.below.mono HB2.out.size));have HG4:=Hd ((HG2.out.drew).trans hb4);clear hb4;go_wp2_with fail;refine hK.out _ _ (HC.out _ HB4.out) (fun hHeld=>?_);clear hK K;try simp only[Act.put,Ax,Ay,Az]
    refine Plan.start [10,11] ?_
    iterate 2 (refine Plan.tk (so rfl) hHeld ?_;try simp only[Act.put,Ax,Ay,Az])
    refine Plan.done ?_;refine wpAnyH_done (by kernel_rfl) ?_ _;clear hHeld;clear t1 t2 wr1 wr1' i0' i1';go_wp2_with fail;go_ret
    refine⟨_,rfl,?_,?_⟩
    ·rw[HZE.out (by first | rfl | trivial)];exact HOUTK.out _ HG4.out
    ·exact HBA.out.trans (HG4.out.below.mono HBA.out.size)
   ·have wr1j:=wr1;clear t1 t2;go_wp2_with fail;refine⟨⟨j,by have:=HKJ.out;have:=HKF.out;omega,by first | rfl | rw[wr1j],HGJ.out rfl,HG2.out⟩,?_⟩;have:=HKJ.out;first | (rw[wr1j];simp only[intOf];omega) | (simp only[intOf];omega)
theorem eqT (x s:ByteArray):(x.toList == s.toList)=decide (x=s):=by
 rw[Bool.eq_iff_iff,beq_iff_eq,decide_eq_true_iff,ByteArray.toList_eq,ByteArray.toList_eq];exact⟨fun h=>Es h,fun h=>by rw[h]⟩
structure ListS (w:World) (l:List ByteArray) (A:Option Addr):Prop where
 ex:∃ b o,(0<l.length->A=some ⟨b,o,none⟩)/\l.length<=1000000000000000/\∀ i (h:i<l.length),w.cell? ⟨b,o+i,none⟩=some (.string l[i])
def Cl (l:List ByteArray) (s:ByteArray):Bool:=l.any fun x=>decide (x=s)
theorem Zu {l:List ByteArray} {i:Nat} (h:i<l.length) (s:ByteArray):Cl (l.drop i) s=(decide (l[i]=s) || Cl (l.drop (i+1)) s):=by rw[List.drop_eq_getElem_cons h];rfl
theorem Jep {w:World} {l:List ByteArray} {A:Option Addr} {c:Nat} (hL:ListS w l A) (s:ByteArray) :
  Calls Tryz.prog 17 #[.slice A l.length c,.string s] w fun e w'=>e=.returned (.bool (Cl l s))/\w'=w:=by
 obtain⟨b,o,hA,hll,hat⟩:=hL;have HAT:=Hd hat;have HAA:=Hd hA;clear hat hA;go_enter Tryz.func17,Tryz.ntmps17;go_wp2_with fail
 go_loopw [5] (fun v wr=>∃ (i:Nat),i<=l.length/\v=.int .i64 i/\Cl l s=Cl (l.drop i) s/\wr=w) (fun v _=>l.length - (intOf v).toNat)
 case atStart=>exact⟨0,by omega,rfl,by rw[List.drop_zero],rfl⟩
 case round=>
  obtain⟨i,hi,rfl,he,rfl⟩:=hrel;have HE:=Hd he;clear he;by_cases hin:i<l.length
  ·have t1:decide ((i:Int)<(l.length:Int))=true:=by simp;omega
   have wr2:wrap64 ((i:Int)+1)=((i+1:Nat):Int):=Ao (by omega);have hA2:=HAA.out (by omega);subst hA2;have hc:=HAT.out i hin;have hd:=Zu hin s;generalize l[i]=x at hc hd;have HS:=Hd hd;have HM:=Hd (Ba hin);have HIn:Hid (i+1<=l.length):=Hd hin;by_cases hk:x=s
   ·have HK:Hid (decide (x=s)=true):=Hd (decide_eq_true hk);have e13:(x.toList == s.toList)=true:=(by rw[eqT];exact decide_eq_true hk);clear hi hd hk;go_wp2_with fail;go_ret
    exact⟨by rw[HE.out,HS.out,HK.out];rfl,rfl⟩
   ·have HK:Hid (decide (x=s)=false):=Hd (decide_eq_false hk);have e13:(x.toList == s.toList)=false:=(by rw[eqT];exact decide_eq_false hk);clear hi hd hk;go_wp2_with fail;refine⟨⟨i+1,HIn.out,by first | rfl | rw[wr2],by rw[HE.out,HS.out,HK.out];rfl,by first | rfl | trivial⟩,?_⟩;first | exact HM.out | (rw[wr2];exact HM.out)
  ·have t1:decide ((i:Int)<(l.length:Int))=false:=by simp;omega
   have HE1:Hid (Cl l s=false):=Hd (by rw[HE.out,List.drop_eq_nil_of_le (by omega)];rfl);clear hi;go_wp2_with fail;go_ret
   exact⟨by rw[HE1.out];rfl,rfl⟩
structure StrI (w:World) (g c:Nat) (l:List ByteArray):Prop where
 le:l.length<=c
 mx:c<=maxLen
 blk:∃ cur,w.heap[g]?=some (.cells cur 9 (0,0))/\cur.size=c
 reps:∀ (i:Nat) (s:ByteArray),l[i]?=some s->w.cell? ⟨g,i,none⟩=some (.string s)
theorem StrI.lt {w:World} {g c:Nat} {l:List ByteArray} (h:StrI w g c l):g<w.heap.size:=by
 obtain⟨cur,h1,_⟩:=h.blk;exact (Array.getElem?_eq_some_iff.1 h1).1
theorem StrI.keep {w w':World} {g c:Nat} {l:List ByteArray} (h:StrI w g c l) (hk:w'.heap[g]?=w.heap[g]?):StrI w' g c l:=
 ⟨h.le,h.mx,by rw[hk];exact h.blk,fun i t hi=>(World.cell?_of_block (a:=⟨g,i,none⟩) hk).trans (h.reps i t hi)⟩
theorem StrI.later {w w':World} {g c:Nat} {l:List ByteArray} (h:StrI w g c l) (hb:Below w.heap.size w w'):StrI w' g c l:=h.keep (hb.block g h.lt)
theorem StrI.set {w:World} {g c:Nat} {a b:List ByteArray} {x s:ByteArray} (h:StrI w g c (a++x :: b)):StrI (w.setCell ⟨g,a.length,none⟩ (.string s)) g c (a++s :: b):=by
 obtain⟨cur,h1,h2⟩:=h.blk;refine⟨by have:=h.le;simpa using this,h.mx,⟨_,Go.heap_setCell_same w g _ _ _ _ h1,by rw[Array.size_setIfInBounds];exact h2⟩,fun i t hi=>?_⟩;by_cases he:i=a.length
 ·subst he;rw[List.getElem?_append_right (Nat.le_refl _),Nat.sub_self] at hi;have ht:s=t:=by injection hi
  rw[<-ht];exact World.cell?_setCell_same _ _ _ (h.reps a.length x (by rw[List.getElem?_append_right (Nat.le_refl _),Nat.sub_self];rfl))
 ·have hi2:(a++x :: b)[i]?=some t:=by
   rcases Nat.lt_or_ge i a.length with h3 | h3
   ·rw[List.getElem?_append_left h3] at hi ⊢;exact hi
   ·obtain⟨m,hm⟩:∃ m,i - a.length=m+1:=⟨i - a.length - 1,by omega⟩;rw[List.getElem?_append_right h3,hm] at hi ⊢;exact hi
  rw[World.cell?_setCell_other _ _ _ _ (fun e=>he (by injection e with _ e2;exact e2.symm))];exact h.reps i t hi2
def OutS (B:Nat) (w:World) (v:Value) (l:List ByteArray):Prop:=w.ownsRow B 9 1 v l.length (l.map .string)
theorem OutS.of {B:Nat} {w:World} {v:Value} {l:List ByteArray} (h:OutS B w v l):(v=.slice none 0 0/\l=[])\/∃ g c,v=.slice (some ⟨g,0,none⟩) l.length c/\B<=g/\StrI w g c l:=by
 obtain⟨h1,h2⟩:=h;rcases h2 with ⟨hv,hn⟩ | ⟨g,cap,cur,hv,hg,hh,hc,hm,hs,ht⟩
 ·exact .inl ⟨hv,List.eq_nil_of_length_eq_zero hn⟩
 ·refine .inr ⟨g,cap,hv,hg,hc,hm,⟨cur,hh,by omega⟩,fun i s hi=>?_⟩;rw[cell_of_row _ _ _ _ _ _ hh];have h6:(l.map Value.string)[i]?=some (.string s):=by rw[List.getElem?_map,hi];rfl
  rw[<-ht,List.getElem?_take] at h6
  split at h6
  ·simpa using h6
  ·cases h6
theorem StrI.out {B:Nat} {w:World} {g c:Nat} {l:List ByteArray} (h:StrI w g c l) (hg:B<=g):OutS B w (.slice (some ⟨g,0,none⟩) l.length c) l:=by
 obtain⟨cur,h1,h2⟩:=h.blk;have hle:=h.le;refine⟨by simp,.inr ⟨g,c,cur,rfl,hg,h1,hle,h.mx,by omega,?_⟩⟩;apply List.ext_getElem?;intro i;rw[List.getElem?_take,List.getElem?_map,Nat.mul_one]
 split
 ·rename_i hi;have h5:=h.reps i l[i] (List.getElem?_eq_getElem hi);rw[cell_of_row _ _ _ _ _ _ h1] at h5;rw[List.getElem?_eq_getElem hi];simpa using h5
 ·rename_i hi;rw[List.getElem?_eq_none (by omega)];rfl
theorem StrI.list {w:World} {g c:Nat} {l:List ByteArray} (h:StrI w g c l) (hl:l.length<=1000000000000000):ListS w l (some ⟨g,0,none⟩):=⟨g,0,fun _=>rfl,hl,fun i hi=>by rw[Nat.zero_add];exact h.reps i _ (List.getElem?_eq_getElem hi)⟩
theorem OutS.later {B:Nat} {w w':World} {v:Value} {l:List ByteArray} (h:OutS B w v l) (hb:Below w.heap.size w w'):OutS B w' v l:=by
 rcases h.of with ⟨rfl,rfl⟩ | ⟨g,c,rfl,hg,hs⟩
 ·exact World.ownsRow_nil _ _ _ _
 ·exact (hs.later hb).out hg
end Go.Proofs.YtlpfpehegddcfaaGreatDoor
