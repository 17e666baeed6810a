import Derived.Test.YtlpfpehegddcfaaGreatDoorMv21
namespace Go.Proofs.YtlpfpehegddcfaaGreatDoor
set_option maxRecDepth 100000
set_option maxHeartbeats 64000000
open Go.RowKit
theorem Lc {B:Nat} {w:World} {v:Value} {l:List ByteArray} {s:ByteArray} {gg:Nat} {o:Oper} {a:Act} {Kc:Act->World->Prop} {Q:Exit->Act->World->Prop} (sl x:Operand)
  (ho:o.op=.call { callee:=.builtin .append,args:=#[sl,x],argTypes:=#[46,46] }) (hs:a.eval sl=v) (hx:a.eval x=.slice (some ⟨gg,0,none⟩) 1 1)
  (hO:OutS B w v l) (hc:w.cell? ⟨gg,0,none⟩=some (.string s)) (hB:B<=w.heap.size) (hbd:l.length+1<=1099511627776)
  (h:∀ v' w',OutS B w' v' (l++[s])->w.grownBy w' v.ownBlock->(v'.ownBlock=v.ownBlock\/v'.ownBlock=some w.heap.size)->Kc (a.put o.dst v') w') :
  Oper.wp Tryz.prog o a w Kc Q:=by
 obtain⟨i0,hi0,hz0,hz1,hz2⟩:=D4 Ih;refine Bz sl x 46 ho B 9 i0 (.string ⟨#[]⟩) 1 16 Tryz.underlying46 hi0 hz0 hz1 hz2 rfl (by decide) v l.length _ hs hO ⟨gg,0,none⟩ 1 1 [.string s] hx rfl (fun j u hj=>?_) (fun u hu=>?_) (by unfold maxLen;omega) (by omega) hB ?_
 ·have hj0:j=0:=by have:=(List.getElem?_eq_some_iff.1 hj).1;simp at this;exact this
  subst hj0;obtain rfl:Value.string s=u:=by simpa using hj
  have e:((⟨gg,0,none⟩:Addr).add 0)=⟨gg,0,none⟩:=rfl;rw[e];exact hc
 ·simp only[List.mem_cons,List.not_mem_nil,or_false] at hu;rw[hu];rfl
 ·intro v' w' g1 g2 _ g4;refine h v' w' ?_ g2 g4;unfold OutS;rw[List.length_append,List.map_append];exact g1
def NmB (w:World) (g:Nat) (v:Value):Prop:=w.heap[g]?=some (.cells #[v] 46 (0,0))
def Tv (w0 w:World) (g:Nat) (l:List ByteArray):Prop:=∃ v,NmB w g v/\OutS w0.heap.size w v l/\Below w0.heap.size w0 w/\w0.heap.size<=g
def P3 (t:Ty):Prop:=∀ (K:Nat->Prop) (w0 w:World) (b o g:Nat) (l:List ByteArray),AtT K w0 t b o->Ab t=true->Tv w0 w g l->l.length+(Aw t).length<=1099511627776 ->
 Calls Tryz.prog 132 #[.pointer (some ⟨b,o,none⟩),.pointer (some ⟨g,0,none⟩)] w fun e w'=>e=.returned (.tuple #[])/\Tv w0 w' g (l++Aw t)
theorem Xe {B:Nat} {w:World} {v:Value} {l:List ByteArray} (h:OutS B w v l) {b:Nat} (hb:v.ownBlock=some b):∃ c,w.heap[b]?=some (.cells c 9 (0,0)):=by
 rcases h.2 with ⟨rfl,_⟩ | ⟨g,cap,cur,rfl,_,hg,_⟩
 ·cases hb
 ·injection hb with hb
  exact⟨cur,by rw[<-hb];exact hg⟩
theorem Mw {B:Nat} {w:World} {g:Nat} {v v':Value} {l:List ByteArray} (h:NmB w g v) (ho:OutS B w v' l):v'.ownBlock≠some g:=fun e=>by
 obtain⟨c,hc⟩:=Xe ho e;unfold NmB at h;rw[hc] at h;injection h with h
 injection h with _ h
 exact absurd h (by decide)
theorem Jao {B:Nat} {w:World} {v:Value} {l:List ByteArray} (h:OutS B w v l):∀ k,v.ownBlock=some k->B<=k:=fun k hk=>by
 rcases h.2 with ⟨rfl,_⟩ | ⟨g,cap,cur,rfl,hg,_⟩
 ·cases hk
 ·injection hk with hk
  obtain rfl:g=k:=hk;exact hg
theorem Rp {w0 w:World} {g:Nat} {v v5:Value} {l:List ByteArray} (h:w.heap[g]?=some (.cells #[v] 46 (0,0))) (ho:OutS w0.heap.size w v5 l) (hb:Below w0.heap.size w0 w) (hg:w0.heap.size<=g):Tv w0 (w.setCell ⟨g,0,none⟩ v5) g l:=by
 have hne:v5.ownBlock≠some g:=Mw h ho;refine⟨v5,Go.heap_setCell_same w g 0 _ _ v5 h,⟨ho.1,?_⟩,hb.setCell hg _,hg⟩;rcases ho.2 with h3 | ⟨b,cap,cur,hv,hg2,hh,r⟩
 ·exact .inl h3
 ·refine .inr ⟨b,cap,cur,hv,hg2,?_,r⟩;rw[Below.heap_setCell _ _ _ _ (fun e=>hne (by rw[hv,e];rfl))];exact hh
theorem E2 {w0 w:World} {g:Nat} {l:List ByteArray} (h:Tv w0 w g l):Below w0.heap.size w0 w:=by
 obtain⟨_,_,_,hb,_⟩:=h;exact hb
theorem Jba (k:Int) (h:(Ae k).f=true):k=14:=by
 unfold Ae at h;by_cases h14:k=14
 ·exact h14
 ·rw[if_neg (show ¬ (k=14) from h14)] at h;exact absurd h (by split <;> (try split) <;> (try split) <;> (try split) <;> (try split) <;> (try split) <;> (try split) <;> (try split) <;> (try split) <;> (try split) <;> (try split) <;> simp)
theorem Ek {t:Ty} (h:Ab t=true):∀ f∈t.fs,Ab f.2.2=true:=fun f hf=>by
 by_cases hk:t.k=14
 ·exact (Qm (Qo h hk) hf).2.2.2
 ·obtain⟨k,s,n,ps,fs,vs⟩:=t;have hfit:=Db h;have hs:(Ae k).f=false:=by
   cases e:(Ae k).f with
   | false=>rfl
   | true=>exact absurd (Jba k e) hk
  unfold Aj at hfit;rw[hs] at hfit;simp only[Bool.and_eq_true,Bool.not_eq_true',Bool.or_eq_false_iff,Bool.not_false,Bool.true_and,decide_eq_false_iff_not] at hfit;have h0:fs=[]:=List.eq_nil_of_length_eq_zero (by have:=hfit.1.1.2;omega);rw[show (Ty.mk k s n ps fs vs).fs=fs from rfl,h0] at hf
  cases hf
theorem Jcd {t:ByteArray} {n:Int} {ps:List Ty} {fs:Bp} {vs:Bm} (h:Ab (.mk 22 t n ps fs vs)=true):ps=[]/\fs=[]:=by
 have hf:=Db h;have hs:Ae 22=⟨true,false,false,false,0,0,true⟩:=rfl;rw[hs] at hf;unfold Aj at hf;simp only[Bool.and_eq_true,Bool.not_eq_true',Bool.or_eq_false_iff,Bool.or_eq_true,decide_eq_true_eq,beq_iff_eq,Bool.not_false,Bool.true_and,decide_eq_false_iff_not] at hf;obtain⟨⟨⟨⟨h1,h2⟩,h3⟩,h4⟩,h5,h6⟩:=hf;exact⟨List.eq_nil_of_length_eq_zero (by omega),List.eq_nil_of_length_eq_zero (by omega)⟩
theorem Wj (k:Int) (s:ByteArray) (n:Int) (ps:List Ty) (fs:Bp) (vs:Bm) (hp:∀ p∈ps,P3 p) (hf:∀ f∈fs,P3 f.2.2):P3 (.mk k s n ps fs vs):=by
 intro K w0 w b o g l hT hform hN hlen;obtain⟨A,c,A2,c2,A3,c3,⟨x0,x1,x2,x3,x4,x5⟩,-,hLp,hLf,-⟩:=hT.six;have hlp:=hLp.short;have hlf:=hLf.shortF;have HXX:Hid (∀ wx,Below w0.heap.size w0 wx->wx.cell? ⟨b,o+3,none⟩=some (.slice A ps.length c)/\wx.cell? ⟨b,o+4,none⟩=some (.slice A2 fs.length c2)):=Hd fun wx hx=>⟨Aa hx x3,Aa hx x4⟩;by_cases hk:k=22
 ·subst hk;obtain⟨rfl,rfl⟩:=Jcd hform;have hna:Aw (.mk 22 s n [] [] vs)=[s]:=by rw[Dh,if_pos rfl]
  rw[hna] at hlen ⊢;obtain⟨v,hv,hO,hb,hg⟩:=hN;have y0:=Aa hb x0;have HX1:=Hd x1;have HBX:Hid (w.heap[g]?=some (.cells #[v] 46 (0,0))):=Hd hv;have HO:=Hd hO;have HB0:=Hd hb;have HGL:=Hd hg;have HLN:Hid (l.length+1<=1099511627776):=Hd hlen;simp only[List.length_nil] at x3 x4 HXX;clear hT hform hlen hna hv hO hb hg x0 x1 x2 x3 x4 x5 hLp hLf hp hf hlp hlf;go_enter Tryz.func132,Tryz.ntmps132;go_upto_region 1 with fail
  clear y0;refine wp_region_held_drew (S:=(fun w'=>w'.cell? ⟨b,o+1,none⟩=some (.string s)/\(w'.cell? ⟨g,0,none⟩).isSome=true/\w'.frozen? ⟨g,0,none⟩=false)) (by kernel_rfl) (⟨Aa HB0.out.drew HX1.out,by rw[show w.drew.cell? ⟨g,0,none⟩=w.cell? ⟨g,0,none⟩ from rfl,Ch HBX.out 0];rfl,Lib.frozen_of_heap (w:=w.drew) HBX.out 0⟩) (fun hHeld=>?_);refine Plan.start [0,1,2,4,5,6,7] ?_
  iterate 7 (refine Plan.tk (so rfl) hHeld ?_;try simp only[Act.put,Ax,Ay,Az])
  refine Plan.done ?_;refine wpAnyH_ready (rs:=[3,8]) (by kernel_rfl) (by simp) ?_;refine AllReadyH.cons (sd (some 14) rfl) (fun Kx hK=>?_) (AllReadyH.cons (sd (some 19) rfl) (fun Kx hK=>?_) AllReadyH.nil)
  ·go_simp;have lz:w.cell? ⟨g,0,none⟩=some v:=Ch HBX.out 0;go_simp;clear lz;refine hK.out _ _ (⟨Aa HB0.out.drew HX1.out,by rw[Ch (w:=w.drew) HBX.out 0];rfl,Lib.frozen_of_heap (w:=w.drew) HBX.out 0⟩) (fun hHeld=>?_);clear hK Kx;try simp only[Act.put,Ax,Ay,Az]
   refine wpAnyH_ready (rs:=[8]) (by kernel_rfl) (by simp) ?_;refine AllReadyH.cons (sd (some 19) rfl) (fun Kx hK=>?_) AllReadyH.nil;go_simp;generalize hW:(w.alloc (.cells #[.string s] 9)).drew=w1;have hb:Below w.heap.size w w1:=by rw[<-hW];exact ((Below.refl _ _).alloc (Nat.le_refl _) _).drew
   have rs:w1.heap[w.heap.size]?=some (.cells #[.string s] 9 (0,0)):=by rw[<-hW];exact heap_alloc_new w _
   have HBW:=Hd hb;have HX:=Hd rs;have HV1:=Hd (Bc hb (Array.getElem?_eq_some_iff.1 HBX.out).1 HBX.out);have HB1:=Hd (HB0.out.trans (hb.mono HB0.out.size));clear hW hb rs;refine hK.out _ _ (⟨Aa HB1.out HX1.out,by rw[Ch HV1.out 0];rfl,Lib.frozen_of_heap HV1.out 0⟩) (fun hHeld=>?_);clear hK Kx;try simp only[Act.put,Ax,Ay,Az]
   refine wpAnyH_ready (rs:=[9]) (by kernel_rfl) (by simp) ?_;refine AllReadyH.cons (sd (some 20) rfl) (fun Kx hK=>?_) AllReadyH.nil;rw[if_pos (by rfl)];refine Lc (B:=w0.heap.size) (l:=l) (s:=s) _ _ rfl rfl rfl (HO.out.later HBW.out) (Ch HX.out 0) (Nat.le_trans HB0.out.size HBW.out.size) HLN.out ?_;intro v5 w5 ho5 hg5 _;obtain⟨A5,c5,hv5,-⟩:=Gk ho5;rw[show (l++[s]).length=l.length+1 by simp] at hv5;subst hv5;have HO5:=Hd ho5;have HV5:Hid (w5.heap[g]?=some (.cells #[v] 46 (0,0))):=Hd ((hg5.block g (Array.getElem?_eq_some_iff.1 HV1.out).1 (fun e=>Mw HBX.out HO.out e.symm)).trans HV1.out);have HB5:=Hd (HB1.out.grown hg5 HB1.out.size (Jao HO.out));clear ho5 hg5;refine hK.out _ _ (⟨Aa HB5.out HX1.out,by rw[Ch HV5.out 0];rfl,Lib.frozen_of_heap HV5.out 0⟩) (fun hHeld=>?_);clear hK Kx;try simp only[Act.put,Ax,Ay,Az]
   refine Plan.start [10] ?_;refine Plan.tk (so rfl) hHeld ?_;try simp only[Act.put,Ax,Ay,Az]
   refine Plan.done ?_;refine wpAnyH_ready (rs:=[11]) (by kernel_rfl) (by simp) ?_;refine AllReadyH.cons (sd none rfl) (fun Kx hK=>?_) AllReadyH.nil;go_simp;have HN6:Hid (Tv w0 (w5.setCell ⟨g,0,none⟩ (.slice A5 (l.length+1) c5)) g (l++[s])):=Hd (Rp HV5.out HO5.out HB5.out HGL.out);have HV6:Hid ((w5.setCell ⟨g,0,none⟩ (.slice A5 (l.length+1) c5)).heap[g]?=some (.cells #[.slice A5 (l.length+1) c5] 46 (0,0))):=Hd (Go.heap_setCell_same w5 g 0 _ _ _ HV5.out);have lz:w5.cell? ⟨g,0,none⟩=some v:=Ch HV5.out 0;have lf:=Lib.frozen_of_heap HV5.out 0;go_simp;clear lz lf;refine hK.out _ _ (⟨Aa (E2 HN6.out) HX1.out,by rw[Ch HV6.out 0];rfl,Lib.frozen_of_heap HV6.out 0⟩) (fun hHeld=>?_);clear hK Kx;try simp only[Act.put,Ax,Ay,Az]
   refine wpAnyH_done (by kernel_rfl) ?_ _;clear hHeld;obtain⟨z3,z4⟩:=HXX.out _ (E2 HN6.out);generalize hw9:w5.setCell ⟨g,0,none⟩ (.slice A5 (l.length+1) c5)=w9 at HN6 z3 z4;clear hw9;go_wp2_with fail
   go_loopw [27] (fun v wr=>v=.int .i64 0/\wr=w9) (fun v _=>0)
   case atStart=>exact⟨rfl,rfl⟩
   case round=>
    obtain⟨rfl,rfl⟩:=hrel;go_wp2_with fail
    go_loopw [48] (fun v wx=>v=.int .i64 0/\wx=wr) (fun v _=>0)
    case atStart=>exact⟨rfl,rfl⟩
    case round=>
     obtain⟨rfl,rfl⟩:=hrel;go_wp2_with fail;exact bodyPost_end (v:=.tuple #[]) (by simp[results,Tryz.results132,go_sem]) rfl ⟨rfl,HN6.out⟩
  ·go_simp;generalize hW:(w.alloc (.cells #[.string s] 9)).drew=w1;have hb:Below w.heap.size w w1:=by rw[<-hW];exact ((Below.refl _ _).alloc (Nat.le_refl _) _).drew
   have rs:w1.heap[w.heap.size]?=some (.cells #[.string s] 9 (0,0)):=by rw[<-hW];exact heap_alloc_new w _
   have HBW:=Hd hb;have HX:=Hd rs;have HV1:=Hd (Bc hb (Array.getElem?_eq_some_iff.1 HBX.out).1 HBX.out);have HB1:=Hd (HB0.out.trans (hb.mono HB0.out.size));clear hW hb rs;refine hK.out _ _ (⟨Aa HB1.out HX1.out,by rw[Ch HV1.out 0];rfl,Lib.frozen_of_heap HV1.out 0⟩) (fun hHeld=>?_);clear hK Kx;try simp only[Act.put,Ax,Ay,Az]
   refine wpAnyH_ready (rs:=[3]) (by kernel_rfl) (by simp) ?_;refine AllReadyH.cons (sd (some 14) rfl) (fun Kx hK=>?_) AllReadyH.nil;go_simp;have lz:w1.cell? ⟨g,0,none⟩=some v:=Ch HV1.out 0;go_simp;clear lz;refine hK.out _ _ (⟨Aa HB1.out HX1.out,by rw[Ch HV1.out 0];rfl,Lib.frozen_of_heap HV1.out 0⟩) (fun hHeld=>?_);clear hK Kx;try simp only[Act.put,Ax,Ay,Az]
   refine wpAnyH_ready (rs:=[9]) (by kernel_rfl) (by simp) ?_;refine AllReadyH.cons (sd (some 20) rfl) (fun Kx hK=>?_) AllReadyH.nil;rw[if_pos (by rfl)];refine Lc (B:=w0.heap.size) (l:=l) (s:=s) _ _ rfl rfl rfl (HO.out.later HBW.out) (Ch HX.out 0) (Nat.le_trans HB0.out.size HBW.out.size) HLN.out ?_;intro v5 w5 ho5 hg5 _;obtain⟨A5,c5,hv5,-⟩:=Gk ho5;rw[show (l++[s]).length=l.length+1 by simp] at hv5;subst hv5;have HO5:=Hd ho5;have HV5:Hid (w5.heap[g]?=some (.cells #[v] 46 (0,0))):=Hd ((hg5.block g (Array.getElem?_eq_some_iff.1 HV1.out).1 (fun e=>Mw HBX.out HO.out e.symm)).trans HV1.out);have HB5:=Hd (HB1.out.grown hg5 HB1.out.size (Jao HO.out));clear ho5 hg5;refine hK.out _ _ (⟨Aa HB5.out HX1.out,by rw[Ch HV5.out 0];rfl,Lib.frozen_of_heap HV5.out 0⟩) (fun hHeld=>?_);clear hK Kx;try simp only[Act.put,Ax,Ay,Az]
   refine Plan.start [10] ?_;refine Plan.tk (so rfl) hHeld ?_;try simp only[Act.put,Ax,Ay,Az]
   refine Plan.done ?_;refine wpAnyH_ready (rs:=[11]) (by kernel_rfl) (by simp) ?_;refine AllReadyH.cons (sd none rfl) (fun Kx hK=>?_) AllReadyH.nil;go_simp;have HN6:Hid (Tv w0 (w5.setCell ⟨g,0,none⟩ (.slice A5 (l.length+1) c5)) g (l++[s])):=Hd (Rp HV5.out HO5.out HB5.out HGL.out);have HV6:Hid ((w5.setCell ⟨g,0,none⟩ (.slice A5 (l.length+1) c5)).heap[g]?=some (.cells #[.slice A5 (l.length+1) c5] 46 (0,0))):=Hd (Go.heap_setCell_same w5 g 0 _ _ _ HV5.out);have lz:w5.cell? ⟨g,0,none⟩=some v:=Ch HV5.out 0;have lf:=Lib.frozen_of_heap HV5.out 0;go_simp;clear lz lf;refine hK.out _ _ (⟨Aa (E2 HN6.out) HX1.out,by rw[Ch HV6.out 0];rfl,Lib.frozen_of_heap HV6.out 0⟩) (fun hHeld=>?_);clear hK Kx;try simp only[Act.put,Ax,Ay,Az]
   refine wpAnyH_done (by kernel_rfl) ?_ _;clear hHeld;obtain⟨z3,z4⟩:=HXX.out _ (E2 HN6.out);generalize hw9:w5.setCell ⟨g,0,none⟩ (.slice A5 (l.length+1) c5)=w9 at HN6 z3 z4;clear hw9;go_wp2_with fail
   go_loopw [27] (fun v wr=>v=.int .i64 0/\wr=w9) (fun v _=>0)
   case atStart=>exact⟨rfl,rfl⟩
   case round=>
    obtain⟨rfl,rfl⟩:=hrel;go_wp2_with fail
    go_loopw [48] (fun v wx=>v=.int .i64 0/\wx=wr) (fun v _=>0)
    case atStart=>exact⟨rfl,rfl⟩
    case round=>
     obtain⟨rfl,rfl⟩:=hrel;go_wp2_with fail;exact bodyPost_end (v:=.tuple #[]) (by simp[results,Tryz.results132,go_sem]) rfl ⟨rfl,HN6.out⟩
 ·have te:(k == 22)=false:=by simpa using hk
  have hna:Aw (.mk k s n ps fs vs)=Bu k 0 ps++Cs fs:=by rw[Dh,if_neg hk]
  rw[hna] at hlen ⊢;have PT:Hid (∀ wx,Below w0.heap.size w0 wx->∀ i:Nat,Calls Tryz.prog 97 #[.pointer (some ⟨b,o,none⟩),.int .i64 i] wx fun e w'=>e=.returned (.bool (k == 21 && i == 1))/\w'=wx):=Hd fun wx hx i=>K2 (Aa hx x0) i;have HP:Hid (∀ i (hi:i<ps.length),∃ pb po,A=some ⟨pb,po,none⟩/\∀ wx l',Tv w0 wx g l'->l'.length+(Aw ps[i]).length<=1099511627776->Calls Tryz.prog 132 #[.pointer (some ⟨pb,po+i*6,none⟩),.pointer (some ⟨g,0,none⟩)] wx fun e w'=>e=.returned (.tuple #[])/\Tv w0 w' g (l'++Aw ps[i])):=Hd fun i hi=>by
   obtain⟨pb,po,hA,_,hat⟩:=hLp.at (by omega);exact⟨pb,po,hA,fun wx l' hn hl=>hp _ (List.getElem_mem hi) K w0 wx pb (po+i*6) g l' (hat i hi) (Ci hform _ (List.getElem_mem hi)) hn hl⟩
  have HF:Hid (∀ i (hi:i<fs.length),∃ pb po,A2=some ⟨pb,po,none⟩/\∀ wx l',Tv w0 wx g l'->l'.length+(Aw fs[i].2.2).length<=1099511627776->Calls Tryz.prog 132 #[.pointer (some ⟨pb,po+i*8+2,none⟩),.pointer (some ⟨g,0,none⟩)] wx fun e w'=>e=.returned (.tuple #[])/\Tv w0 w' g (l'++Aw fs[i].2.2)):=Hd fun i hi=>by
   obtain⟨pb,po,hA,_,hat⟩:=hLf.at (by omega);exact⟨pb,po,hA,fun wx l' hn hl=>hf _ (List.getElem_mem hi) K w0 wx pb (po+i*8+2) g l' (hat i hi).2.2.2 (Ek hform _ (List.getElem_mem hi)) hn hl⟩
  have y0:=Aa (E2 hN) x0;have y3:=Aa (E2 hN) x3;have HST:=Hd hN;have HLN:=Hd hlen;clear hT hform hlen hna hN x0 x1 x2 x3 x4 x5 hLp hLf hp hf hk;go_enter Tryz.func132,Tryz.ntmps132;go_wp2_with fail;clear y0 y3
  go_loopw [27] (fun v wr=>∃ (i:Nat) (N:List ByteArray),i<=ps.length/\v=.int .i64 i/\N++Bu k i (ps.drop i)=Bu k 0 ps/\Tv w0 wr g (l++N)) (fun v _=>ps.length - (intOf v).toNat)
  case atStart=>exact⟨0,[],by omega,rfl,by rw[List.drop_zero];rfl,by rw[List.append_nil];exact HST.out⟩
  case round=>
   obtain⟨i,N,hi,rfl,he,hn⟩:=hrel;have HE:=Hd he;have HN:=Hd hn;obtain⟨z3,z4⟩:=HXX.out _ (E2 hn);have PI:=Hd (PT.out _ (E2 hn) i);clear he hn;by_cases hin:i<ps.length
   ·have t1:decide ((i:Int)<(ps.length:Int))=true:=(by simp;omega);have wr2:wrap64 ((i:Int)+1)=((i+1:Nat):Int):=Ao (by omega);have i1:(0:Int)<=(i:Int):=(by omega);have i2:(i:Int)<(ps.length:Int):=(by omega);have HM:=Hd (Ba hin);have HIn:Hid (i+1<=ps.length):=Hd hin;obtain⟨pb,po,hA,hcall⟩:=HP.out i hin;subst hA;have hdrop:=K0 (k:=k) hin;have HC:Hid ((k == 21 && i == 1)=false->Calls Tryz.prog 132 #[.pointer (some ⟨pb,po+i*6,none⟩),.pointer (some ⟨g,0,none⟩)] _ fun e w'=>e=.returned (.tuple #[])/\Tv w0 w' g ((l++N)++Aw ps[i])):=Hd fun hq=>hcall _ _ HN.out (by
     have h1:=HLN.out;rw[<-HE.out,hdrop,hq,if_neg (by decide)] at h1;simp only[List.length_append] at h1 ⊢;omega)
    have HS:=Hd hdrop;generalize hq:(k == 21 && i == 1)=q at PI HS HC;clear hcall hdrop hq hi;go_wp2_with fail;refine PI.out.mono ?_;rintro e w2 ⟨rfl,hw⟩;obtain rfl:=hw.symm
    cases q with
    | true=>
     go_wp2_with fail;refine⟨⟨i+1,N,HIn.out,by first | rfl | rw[wr2],by rw[<-HE.out,HS.out];simp,HN.out⟩,?_⟩;first | exact HM.out | (rw[wr2];exact HM.out)
    | false=>
     go_wp2_with fail;refine (HC.out trivial).mono ?_;rintro e w3 ⟨rfl,hn3⟩;have HN3:=Hd hn3;clear hn3;go_wp2_with fail;refine⟨⟨i+1,N++Aw (ps[i]'HIn.out),HIn.out,by first | rfl | rw[wr2],by rw[<-HE.out,HS.out];simp,by rw[<-List.append_assoc];exact HN3.out⟩,?_⟩;first | exact HM.out | (rw[wr2];exact HM.out)
   ·have t1:decide ((i:Int)<(ps.length:Int))=false:=(by simp;omega);have HE1:Hid (N=Bu k 0 ps):=Hd (by rw[<-HE.out,List.drop_eq_nil_of_le (by omega),Bu,List.append_nil]);clear hi PI;go_wp2_with fail;clear z3 z4;have HN0:=Hd HN.out
    go_loopw [48] (fun v wx=>∃ (i:Nat) (M:List ByteArray),i<=fs.length/\v=.int .i64 i/\M++Cs (fs.drop i)=Cs fs/\Tv w0 wx g ((l++N)++M)) (fun v _=>fs.length - (intOf v).toNat)
    case atStart=>exact⟨0,[],by omega,rfl,by rw[List.drop_zero];rfl,by rw[List.append_nil];exact HN0.out⟩
    case round=>
     obtain⟨i,M,hi,rfl,he,hn⟩:=hrel;have HE:=Hd he;have HN:=Hd hn;obtain⟨z3,z4⟩:=HXX.out _ (E2 hn);clear he hn;by_cases hin:i<fs.length
     ·have t1:decide ((i:Int)<(fs.length:Int))=true:=(by simp;omega);have wr2:wrap64 ((i:Int)+1)=((i+1:Nat):Int):=Ao (by omega);have i1:(0:Int)<=(i:Int):=(by omega);have i2:(i:Int)<(fs.length:Int):=(by omega);have HM:=Hd (Ba hin);have HIn:Hid (i+1<=fs.length):=Hd hin;obtain⟨pb,po,hA,hcall⟩:=HF.out i hin;subst hA;have hdrop:=Kz hin;have HC:=Hd (hcall _ _ HN.out (by
       have h1:=HLN.out;rw[<-HE1.out,<-HE.out,hdrop] at h1;simp only[List.length_append] at h1 ⊢;omega))
      have HS:=Hd hdrop;clear hcall hdrop hi;go_wp2_with fail;refine HC.out.mono ?_;rintro e w3 ⟨rfl,hn3⟩;have HN3:=Hd hn3;clear hn3;go_wp2_with fail;refine⟨⟨i+1,M++Aw (fs[i]'HIn.out).2.2,HIn.out,by first | rfl | rw[wr2],by rw[<-HE.out,HS.out,List.append_assoc],by rw[<-List.append_assoc];exact HN3.out⟩,?_⟩;first | exact HM.out | (rw[wr2];exact HM.out)
     ·have t1:decide ((i:Int)<(fs.length:Int))=false:=(by simp;omega);have HE2:Hid (M=Cs fs):=Hd (by rw[<-HE.out,List.drop_eq_nil_of_le (by omega)];simp[Cs]);clear hi;go_wp2_with fail;exact bodyPost_end (v:=.tuple #[]) (by simp[results,Tryz.results132,go_sem]) rfl ⟨rfl,by rw[<-HE1.out,<-HE2.out,<-List.append_assoc];exact HN.out⟩
theorem Zy (t:Ty):P3 t:=Ty.ind (C:=P3) (fun k t n ps fs vs hp hf _=>Wj k t n ps fs vs hp hf) t
def Exact {α:Type} (n M:Nat) (S L:α):Prop:=(M<=4096->n=M/\S=L)/\(4096<M->4096<n)
theorem Exact.step {α β:Type} {n M m n1:Nat} {S L:α} {u x:β} {f:α->β->α} (h:Exact n M S L) (hn:n<=4096) (h2:Exact n1 (n+m) u x):Exact n1 (M+m) (f S u) (f L x):=by
 have hM:M<=4096:=Classical.byContradiction fun h'=>by have:=h.2 (by omega);omega
 obtain⟨rfl,rfl⟩:=h.1 hM;exact⟨fun h'=>⟨(h2.1 h').1,by rw[(h2.1 h').2]⟩,h2.2⟩
theorem Exact.add {α:Type} {n M m:Nat} {S L:α} (h:Exact n M S L):Exact (n+min m 4097) (M+m) S L:=by
 refine⟨fun h'=>?_,fun h'=>?_⟩
 ·have:=h.1 (by omega);exact⟨by omega,this.2⟩
 ·rcases Nat.lt_or_ge 4096 M with h3 | h3
  ·have:=h.2 h3;omega
  ·have:=(h.1 h3).1;omega
theorem Vk (l:List Ty) (t:Ty):An (l++[t])=An l+Ai t:=by rw[Hu,B6,Gp];omega
theorem Ny:∀ (l:Bp) (f:ByteArray×Int×Ty),Bd (l++[f])=Bd l+Ai f.2.2
 | [],f=>by simp[Bd]
 | g :: l,f=>by
  have e1:Bd (g :: (l++[f]))=Ai g.2.2+Bd (l++[f]):=by simp[Bd]
  have e2:Bd (g :: l)=Ai g.2.2+Bd l:=by simp[Bd]
  rw[List.cons_append,e1,e2,Ny l f];omega
theorem Vj {l:List Ty} {i:Nat} (h:i<l.length):An (l.take (i+1))=An (l.take i)+Ai l[i]:=by
 rw[List.take_succ_eq_append_getElem h,Vk]
theorem Nx {l:Bp} {i:Nat} (h:i<l.length):Bd (l.take (i+1))=Bd (l.take i)+Ai l[i].2.2:=by
 rw[List.take_succ_eq_append_getElem h,Ny]
theorem Se (l:List Ty) (i:Nat):An (l.take i)<=An l:=by
 have h:An (l.take i++l.drop i)=An l:=by rw[List.take_append_drop i l]
 rw[Hu] at h;omega
theorem OwnE.but {P O:Nat->Prop} {T:TypeId} {z B:Nat} {w w':World} {v:Value} {l:List Ty} (h:OwnE (WhE P) T z B w v l) (hb:ButG O w w') (hP:∀ x,O x->¬ P x) (hv:∀ x,v.ownBlock=some x->¬ O x):OwnE (WhE P) T z B w' v l:=by
 have hlt:=fun b (e:v.ownBlock=some b)=>(h.lt e).2;obtain⟨vs,h1,h2⟩:=h;refine⟨vs,Hk h1 fun b e=>hb.block b (hlt b e) (hv b e),fun i hi=>?_⟩;obtain⟨cs,h3,h4,h5⟩:=h2 i hi;exact⟨cs,RepT.but h3 hb fun x hx=>⟨fun ho=>hP x ho hx.2,⟨Nat.lt_of_lt_of_le hx.1.1 hb.size,hx.1.2⟩,hx.2⟩,h4,h5⟩
theorem ListT.but {O K K':Nat->Prop} {a b:World} {l:List Ty} {A:Option Addr} {c:Nat} (h:ListT K a l A c) (hb:ButG O a b) (hk:∀ x,K x->¬ O x/\K' x):ListT K' b l A c:=by
 obtain⟨g,o,h1,h2⟩:=h;refine⟨g,o,h1.weak fun x hx=>(hk x hx).2,fun i hi=>?_⟩;have hg:=(h1.some (by omega)).2;exact (h2 i hi).keep (fun x hx=>(hk x hx).2) (fun x _ _ hx hc=>hb.cell (hk x hx).1 hc) fun _ _ hc=>hb.cell (hk g hg).1 hc
theorem ListD.but {O K K':Nat->Prop} {a b:World} {l:List (ByteArray×Ty)} {A:Option Addr} {c:Nat} (h:ListD K a l A c) (hb:ButG O a b) (hk:∀ x,K x->¬ O x/\K' x):ListD K' b l A c:=by
 obtain⟨g,o,h1,h2⟩:=h;refine⟨g,o,h1.weak fun x hx=>(hk x hx).2,fun i hi=>?_⟩;have hg:=(h1.some (by omega)).2;obtain⟨h3,h4,h5⟩:=h2 i hi;exact⟨hb.cell (hk g hg).1 h3,h4,h5.keep (fun x hx=>(hk x hx).2) (fun x _ _ hx hc=>hb.cell (hk x hx).1 hc) fun _ _ hc=>hb.cell (hk g hg).1 hc⟩
theorem Ma (l:Bp) (i:Nat):Bd (l.take i)<=Bd l:=by
 have h:Bd (l.take i++l.drop i)=Bd l:=by rw[List.take_append_drop i l]
 have e:∀ a c:Bp,Bd (a++c)=Bd a+Bd c:=fun a c=>by
  induction a with
  | nil=>simp[Bd]
  | cons x a ih=>
   have e1:Bd (x :: (a++c))=Ai x.2.2+Bd (a++c):=by simp[Bd]
   have e2:Bd (x :: a)=Ai x.2.2+Bd a:=by simp[Bd]
   rw[List.cons_append,e1,e2,ih];omega
 rw[e] at h;omega
theorem Jeq:(Tryz.prog.info? 59).map (fun i=>(i.zero,i.size,i.bytes))=some (some (.agg #[.string ⟨#[]⟩,.int .i64 0,.int .i64 0,.string ⟨#[]⟩,.int .i64 0,.slice none 0 0,.slice none 0 0,.slice none 0 0]),8,128):=by kernel_rfl
theorem ButG.set {O:Nat->Prop} {a w:World} (h:ButG O a w) {p:Addr} (hp:O p.block\/a.heap.size<=p.block) (u:Value):ButG O a (w.setCell p u):=
 ⟨h.os,h.tape,h.output,by have:=h.size;simpa [World.setCell] using this,fun k hk hn=>(Below.heap_setCell w p u k fun e=>hp.elim (fun h'=>hn (by rw[e];exact h')) fun h'=>by omega).trans (h.block k hk hn)⟩
theorem ButG.then {O:Nat->Prop} {a w w':World} (h:ButG O a w) (hb:Below w.heap.size w w'):ButG O a w':=
 h.trans (ButG.of_below (O:=fun _=>False) hb) fun _ hx=>hx.elim
theorem ButG.mono {O O':Nat->Prop} {a w:World} (h:ButG O a w) (ho:∀ x,O x->O' x):ButG O' a w:=
 ⟨h.os,h.tape,h.output,h.size,fun k hk hn=>h.block k hk fun e=>hn (ho k e)⟩
theorem ButG.up {O:Nat->Prop} {a w:World} (h:ButG O a w) {c:Nat} {o:Obj} (hc:¬ O c) (hx:a.heap[c]?=some o):w.heap[c]?=some o:=
 (h.block c (Array.getElem?_eq_some_iff.1 hx).1 hc).trans hx
theorem Co {W:World} {b:Nat} {T:TypeId} {cs:Array Value} (h:W.heap[b]?=some (.cells cs T (0,0))) (i:Nat) (y:Value):(W.setCell ⟨b,i,none⟩ y).heap[b]?=some (.cells (cs.setIfInBounds i y) T (0,0)):=by
 simp only[World.setCell,Array.getElem?_modify,if_pos,h,Option.map_some];rfl
theorem ListF.but {O K K':Nat->Prop} {a b:World} {l:Bp} {A:Option Addr} {c:Nat} (h:ListF K a l A c) (hb:ButG O a b) (hk:∀ x,K x->¬ O x/\K' x):ListF K' b l A c:=by
 obtain⟨g,o,h1,h2⟩:=h;refine⟨g,o,h1.weak fun x hx=>(hk x hx).2,fun i hi=>?_⟩;have hg:=(h1.some (by omega)).2;obtain⟨h3,h4,h5,h6⟩:=h2 i hi;exact⟨hb.cell (hk g hg).1 h3,hb.cell (hk g hg).1 h4,h5,h6.keep (fun x hx=>(hk x hx).2) (fun x _ _ hx hc=>hb.cell (hk x hx).1 hc) fun _ _ hc=>hb.cell (hk g hg).1 hc⟩
theorem ListV.but {O K K':Nat->Prop} {a b:World} {l:Bm} {A:Option Addr} {c:Nat} (h:ListV K a l A c) (hb:ButG O a b) (hk:∀ x,K x->¬ O x/\K' x):ListV K' b l A c:=by
 obtain⟨g,o,h1,h2⟩:=h;refine⟨g,o,h1.weak fun x hx=>(hk x hx).2,fun i hi=>?_⟩;have hg:=(h1.some (by omega)).2;obtain⟨B,d,h3,h4,h5,h6⟩:=h2 i hi;exact⟨B,d,hb.cell (hk g hg).1 h3,hb.cell (hk g hg).1 h4,h5,h6.but hb hk⟩
theorem ButG.put1 {b:Nat} {a w:World} (h:ButG (fun x=>x=b) a w) (i:Nat) (u:Value):ButG (fun x=>x=b) a (w.setCell ⟨b,i,none⟩ u):=
 ButG.set (O:=fun x=>x=b) (p:=⟨b,i,none⟩) h (.inl rfl) u
theorem Cu (w:World) (g:Nat) (y0 y1 y2 y3 y4 y5:Value):ButG (fun x=>x=g) w ((((((w.setCell ⟨g,0,none⟩ y0).setCell ⟨g,1,none⟩ y1).setCell ⟨g,2,none⟩ y2).setCell ⟨g,3,none⟩ y3).setCell ⟨g,4,none⟩ y4).setCell ⟨g,5,none⟩ y5):=
 ((((((ButG.refl _ _).put1 0 y0).put1 1 y1).put1 2 y2).put1 3 y3).put1 4 y4).put1 5 y5
theorem ButG.fin {b g:Nat} {w w1 w6 W:World} (h1:Below w.heap.size w w1) (h2:ButG (fun x=>x=b\/x=g+1) w1 w6) (hg:g=w.heap.size+1) (h3:ButG (fun x=>x=g) w6 W):ButG (fun x=>x=b) w W:=
 ((ButG.of_below (O:=fun x=>x=b) h1).trans h2 fun x hx=>hx.imp id fun h=>by omega).trans h3 fun x hx=>.inr (by omega)
theorem ButG.from {O:Nat->Prop} {a w w':World} (hb:Below a.heap.size a w) (h:ButG O w w'):ButG O a w':=
 (ButG.of_below (O:=O) hb).trans h fun _ hx=>.inl hx
theorem Hp (n:Int):IntKind.i64.wrap n=wrap64 n:=by unfold wrap64;exact IntKind.wrap_i64 n
theorem S4:∀ l:List Ty,l.length<=An l
 | []=>Nat.le_refl _
 | a :: l=>by
  rw[B6,List.length_cons];have:=S4 l;have:=Jb a;omega
theorem Jee:∀ fs:Bp,fs.length<=Bd fs
 | []=>Nat.le_refl _
 | a :: l=>by
  have e:Bd (a :: l)=Ai a.2.2+Bd l:=by simp[Bd]
  rw[e,List.length_cons];have:=Jee l;have:=Jb a.2.2;omega
theorem FillA.get {P:Nat->Prop} {b:Nat} {T:TypeId} {w:World} {F:ByteArray->Option Ty} {p:Ty} {m:Nat} {e:Ending} {w':World} (h:FillA P b T w F p m e w'):∃ (rs:List Value) (u:Ty) (n1:Nat),e=.returned (.agg rs.toArray)/\RepT P w' u rs/\w'.heap[b]?=some (.cells #[.int .i64 n1] T (0,0))/\Exact n1 (m+N5 F p) u (Ud F p)/\n1<=8192+Ai p/\Ai u<=Ai p*4097/\ButG (fun x=>x=b) w w':=by
 obtain⟨rs,u,n1,h1,h2,h3,h4,h5,h6,h7,h8⟩:=h;exact⟨rs,u,n1,h1,h2,h3,⟨h4,h5⟩,h6,h7,h8⟩
theorem Yc (w:World) (a:Option Addr) (l c:Nat):(binOp .eql 22 (.slice a l c) (.slice none 0 0)).run Tryz.prog w=.ok (.bool a.isNone) w:=by
 simp[binOp,run_equal_slice_nil w 22 26 a l c Lr]
theorem L8 (ad:Addr) (n c:Nat) (news:List Value) (w:World) (hn:n<=1000000) (hl:news.length=n*6) (h1:∀ u∈news,u.oneCell'=true) (h:∀ j u,news[j]?=some u->w.cell? (ad.add j)=some u) :
  Calls Tryz.prog 66 #[.slice (some ad) n c] w fun e w'=>∃ g c',e=.returned (.slice (some ⟨g,0,none⟩) n c')/\w.heap.size<=g/\g<w'.heap.size/\n<=c'/\w'.ownsRow w.heap.size 26 6 (.slice (some ⟨g,0,none⟩) n c') n news/\Below w.heap.size w w':=by
 obtain⟨i0,hi0,hz0,hz1,hz2⟩:=D4 Hh;have HS:=Hd h;have HN:=Hd hn;have HL:=Hd hl;have HO:=Hd h1;have hq:=Yc w (some ad) n c;simp only[Option.isNone_some] at hq;clear h hn hl h1;go_enter Tryz.func66,Tryz.ntmps66;have HE:=Hd (World.ownsRow_lit (base:=w.heap.size) (e:=26) (size:=6) w #[] 0 (Nat.le_refl _) (by decide) rfl);go_wp2_with (at_builtin;go_loud (refine wpList_append_own _ rfl _ _ 22 rfl w.heap.size 26 i0 (.agg #[.int .i64 0,.string ⟨#[]⟩,.int .i64 0,.slice none 0 0,.slice none 0 0,.slice none 0 0]) 6 104 Lr hi0 hz0 hz1 hz2 rfl (by decide) _ _ _ rfl HE.out ad n c news rfl ?a0 ?a1 ?a2 ?a3 ?a4 ?a5 ?_))
 case a0=>exact HL.out
 case a1=>exact fun j u hj=>Aa ((Below.refl _ _).alloc (Nat.le_refl _) _) (HS.out j u hj)
 case a2=>exact HO.out
 case a3=>exact Nat.le_trans HN.out (by decide:1000000<=maxLen)
 case a4=>have:=HN.out;omega
 intro v' w' hown hgrow hne;obtain⟨g,cap,hv,hbg,hgl,hnc,hrow⟩:∃ g cap,v'=.slice (some ⟨g,0,none⟩) n cap/\w.heap.size<=g/\g<w'.heap.size/\n<=cap/\w'.ownsRow w.heap.size 26 6 (.slice (some ⟨g,0,none⟩) n cap) n news:=by
  have h2:=hown.2;rcases h2 with ⟨h3,h4⟩ | ⟨g,cap,cur,h3,h4,h5,h6,_⟩
  ·exact absurd h3 hne
  ·subst h3;exact⟨g,cap,rfl,h4,(Array.getElem?_eq_some_iff.1 h5).1,h6,hown⟩
 subst hv;have hb:Below w.heap.size w w':=((Below.refl w.heap.size w).alloc (Nat.le_refl _) (.cells #[] 26)).grown hgrow (by simp) (fun k hk=>by simp[Value.ownBlock] at hk;omega);have HB:=Hd hb;have HR:=Hd hrow;clear hown hgrow hne hb hrow
 go_wp2
 go_ret
 exact⟨g,cap,rfl,hbg,hgl,hnc,HR.out,HB.out⟩
theorem Ja (w:World) :
  Calls Tryz.prog 66 #[.slice none 0 0] w fun e w'=>e=.returned (.slice none 0 0)/\w=w':=by
 have hq:=Yc w none 0 0;simp only[Option.isNone_none] at hq;go_enter Tryz.func66,Tryz.ntmps66;go_wp2_with fail;go_ret
 exact⟨rfl,rfl⟩
theorem Yb (w:World) (a:Option Addr) (l c:Nat):(binOp .eql 23 (.slice a l c) (.slice none 0 0)).run Tryz.prog w=.ok (.bool a.isNone) w:=by
 simp[binOp,run_equal_slice_nil w 23 59 a l c Tryz.underlying23]
theorem P7 (ad:Addr) (n c:Nat) (news:List Value) (w:World) (hn:n<=1000000) (hl:news.length=n*8) (h1:∀ u∈news,u.oneCell'=true) (h:∀ j u,news[j]?=some u->w.cell? (ad.add j)=some u) :
  Calls Tryz.prog 67 #[.slice (some ad) n c] w fun e w'=>∃ g c',e=.returned (.slice (some ⟨g,0,none⟩) n c')/\w.heap.size<=g/\g<w'.heap.size/\n<=c'/\w'.ownsRow w.heap.size 59 8 (.slice (some ⟨g,0,none⟩) n c') n news/\Below w.heap.size w w':=by
 obtain⟨i0,hi0,hz0,hz1,hz2⟩:=D4 Jeq;have HS:=Hd h;have HN:=Hd hn;have HL:=Hd hl;have HO:=Hd h1;have hq:=Yb w (some ad) n c;simp only[Option.isNone_some] at hq;clear h hn hl h1;go_enter Tryz.func67,Tryz.ntmps67;have HE:=Hd (World.ownsRow_lit (base:=w.heap.size) (e:=59) (size:=8) w #[] 0 (Nat.le_refl _) (by decide) rfl);go_wp2_with (at_builtin;go_loud (refine wpList_append_own _ rfl _ _ 23 rfl w.heap.size 59 i0 (.agg #[.string ⟨#[]⟩,.int .i64 0,.int .i64 0,.string ⟨#[]⟩,.int .i64 0,.slice none 0 0,.slice none 0 0,.slice none 0 0]) 8 128 Tryz.underlying23 hi0 hz0 hz1 hz2 rfl (by decide) _ _ _ rfl HE.out ad n c news rfl ?a0 ?a1 ?a2 ?a3 ?a4 ?a5 ?_))
 case a0=>exact HL.out
 case a1=>exact fun j u hj=>Aa ((Below.refl _ _).alloc (Nat.le_refl _) _) (HS.out j u hj)
 case a2=>exact HO.out
 case a3=>exact Nat.le_trans HN.out (by decide:1000000<=maxLen)
 case a4=>have:=HN.out;omega
 intro v' w' hown hgrow hne;obtain⟨g,cap,hv,hbg,hgl,hnc,hrow⟩:∃ g cap,v'=.slice (some ⟨g,0,none⟩) n cap/\w.heap.size<=g/\g<w'.heap.size/\n<=cap/\w'.ownsRow w.heap.size 59 8 (.slice (some ⟨g,0,none⟩) n cap) n news:=by
  have h2:=hown.2;rcases h2 with ⟨h3,h4⟩ | ⟨g,cap,cur,h3,h4,h5,h6,_⟩
  ·exact absurd h3 hne
  ·subst h3;exact⟨g,cap,rfl,h4,(Array.getElem?_eq_some_iff.1 h5).1,h6,hown⟩
 subst hv;have hb:Below w.heap.size w w':=((Below.refl w.heap.size w).alloc (Nat.le_refl _) (.cells #[] 59)).grown hgrow (by simp) (fun k hk=>by simp[Value.ownBlock] at hk;omega);have HB:=Hd hb;have HR:=Hd hrow;clear hown hgrow hne hb hrow
 go_wp2
 go_ret
 exact⟨g,cap,rfl,hbg,hgl,hnc,HR.out,HB.out⟩
theorem O8 (w:World) :
  Calls Tryz.prog 67 #[.slice none 0 0] w fun e w'=>e=.returned (.slice none 0 0)/\w=w':=by
 have hq:=Yb w none 0 0;simp only[Option.isNone_none] at hq;go_enter Tryz.func67,Tryz.ntmps67;go_wp2_with fail;go_ret
 exact⟨rfl,rfl⟩
structure FPre (k:Int) (t:ByteArray) (n:Int) (ps:List Ty) (fs:Bp) (vs:Bm) (K:Nat->Prop) (w:World) (A:Option Addr) (c:Nat) (A':Option Addr) (c':Nat) (A'':Option Addr) (c'':Nat) (w1:World):Prop where
 HXC:Hid (∀ wx,Below w1.heap.size w1 wx->wx.cell? ⟨w.heap.size,0,none⟩=some (.int .i64 k)/\wx.cell? ⟨w.heap.size,1,none⟩=some (.string t)/\wx.cell? ⟨w.heap.size,2,none⟩=some (.int .i64 n)/\wx.cell? ⟨w.heap.size,3,none⟩=some (.slice A ps.length c)/\wx.cell? ⟨w.heap.size,4,none⟩=some (.slice A' fs.length c')/\wx.cell? ⟨w.heap.size,5,none⟩=some (.slice A'' vs.length c''))
 KAll:Hid (∀ wx,Below w1.heap.size w1 wx->Calls Tryz.prog 69 #[.slice A ps.length c] wx fun e w'=>e=.returned (.bool (ps.all Ab))/\Below wx.heap.size wx w')
 KPl:Hid (∀ wx,Calls Tryz.prog 70 #[.agg #[.int .i64 k,.string t,.int .i64 n,.slice A ps.length c,.slice A' fs.length c',.slice A'' vs.length c'']] wx fun e w'=>e=.returned (.bool (t.toList == [] && n == 0))/\Below wx.heap.size wx w')
 KNm:Hid (∀ wx,Calls Tryz.prog 16 #[.string t] wx fun e w'=>e=.returned (.bool (Bo t))/\Below wx.heap.size wx w')
 KOb:Hid (∀ wx,Below w1.heap.size w1 wx->Calls Tryz.prog 72 #[.slice A' fs.length c'] wx fun e w'=>e=.returned (.bool (Ca (Bf fs Ab)))/\Below wx.heap.size wx w')
 KBi:Hid (∀ wx,Below w1.heap.size w1 wx->Calls Tryz.prog 71 #[.slice A'' vs.length c''] wx fun e w'=>e=.returned (.bool (Dy (C3 vs Ab)))/\Below wx.heap.size wx w')
 KOv:Hid (∀ wx,Below w1.heap.size w1 wx->Calls Tryz.prog 73 #[.slice A ps.length c] wx fun e w'=>e=.returned (.bool (Io ps))/\w'=wx)
 HREP:Hid (RepT K w (.mk k t n ps fs vs) [.int .i64 k,.string t,.int .i64 n,.slice A ps.length c,.slice A' fs.length c',.slice A'' vs.length c''])
 HCN:Hid (1+(An ps+(Bd fs+Be vs))<=1000000)
 HBZ:Hid (Below w.heap.size w w1)
 HB:Hid (Below w1.heap.size w1 w1)
 HS1:Hid (w1.heap.size=w.heap.size+1)
 HX0:Hid (w1.heap[w.heap.size]?=some (.cells #[.int .i64 k,.string t,.int .i64 n,.slice A ps.length c,.slice A' fs.length c',.slice A'' vs.length c''] 26 (0,0)))
 HW1:Hid (w1=w.alloc (.cells #[.int .i64 k,.string t,.int .i64 n,.slice A ps.length c,.slice A' fs.length c',.slice A'' vs.length c''] 26))
 hlp:ps.length<=1000000000000000
 hlf:fs.length<=1000000000000000
 hlv:vs.length<=1000000000000000
theorem At (k:Int) (t:ByteArray) (n:Int) (ps:List Ty) (fs:Bp) (vs:Bm) (hp:∀ p∈ps,Ad p) (hf:∀ f∈fs,Ad f.2.2) (hv:∀ v∈vs,∀ b∈v.2,Ad b)
  (main:∀ (K:Nat->Prop) (w:World) (A:Option Addr) (c:Nat) (A':Option Addr) (c':Nat) (A'':Option Addr) (c'':Nat) (w1:World),FPre k t n ps fs vs K w A c A' c' A'' c'' w1 ->
   Calls Tryz.prog 38 #[.agg #[.int .i64 k,.string t,.int .i64 n,.slice A ps.length c,.slice A' fs.length c',.slice A'' vs.length c'']] w fun e w'=>e=.returned (.bool (Ab (.mk k t n ps fs vs)))/\Below w.heap.size w w'):Ad (.mk k t n ps fs vs):=by
 intro K w cs hrep hc;obtain⟨A,c,A',c',A'',c'',rfl,hts,hL,hF,hV⟩:=hrep.inv;simp only[Ar];obtain⟨w1,hw1⟩:∃ x,x=w.alloc (.cells #[.int .i64 k,.string t,.int .i64 n,.slice A ps.length c,.slice A' fs.length c',.slice A'' vs.length c''] 26):=⟨_,rfl⟩;have hb1:Below w.heap.size w w1:=by rw[hw1];exact (Below.refl _ _).alloc (Nat.le_refl _) _
 have hs1:w1.heap.size=w.heap.size+1:=by rw[hw1];simp
 have hx0:w1.heap[w.heap.size]?=some (.cells #[.int .i64 k,.string t,.int .i64 n,.slice A ps.length c,.slice A' fs.length c',.slice A'' vs.length c''] 26 (0,0)):=by rw[hw1];exact heap_alloc_new w _
 have HXC:Hid (∀ wx,Below w1.heap.size w1 wx->wx.cell? ⟨w.heap.size,0,none⟩=some (.int .i64 k)/\wx.cell? ⟨w.heap.size,1,none⟩=some (.string t)/\wx.cell? ⟨w.heap.size,2,none⟩=some (.int .i64 n)/\wx.cell? ⟨w.heap.size,3,none⟩=some (.slice A ps.length c)/\wx.cell? ⟨w.heap.size,4,none⟩=some (.slice A' fs.length c')/\wx.cell? ⟨w.heap.size,5,none⟩=some (.slice A'' vs.length c'')):=Hd fun wx hx=>by
  have h:=Bc hx (by omega) hx0;exact⟨Ch h 0,Ch h 1,Ch h 2,Ch h 3,Ch h 4,Ch h 5⟩
 have hcn:1+(An ps+(Bd fs+Be vs))<=1000000:=by rw[<-Br k t n ps fs vs];exact hc
 have KAll:=Hd fun wx (hx:Below w1.heap.size w1 wx)=>Tx ps hp (hL.later (hb1.trans (hx.mono hb1.size))) (by omega);have KPl:=Hd fun wx=>Wx (w:=wx) k t n A ps.length c A' fs.length c' A'' vs.length c'';have KNm:=Hd fun wx=>Jj t wx hts;have KOb:=Hd fun wx (hx:Below w1.heap.size w1 wx)=>S8 fs hf (hF.later (hb1.trans (hx.mono hb1.size))) (by omega);have hlv:vs.length<=1000000000000000:=by obtain⟨_,_,hr,_⟩:=hV;exact hr.big
 have KBi:=Hd fun wx (hx:Below w1.heap.size w1 wx)=>Vb vs hv (hV.later (hb1.trans (hx.mono hb1.size))) hlv (by omega);have KOv:=Hd fun wx (hx:Below w1.heap.size w1 wx)=>Jaq (hL.later (hb1.trans (hx.mono hb1.size)));have HREP:=Hd hrep;have HL:=Hd hL;have HCN:=Hd hcn;have HBZ:=Hd hb1;have HB:Hid (Below w1.heap.size w1 w1):=Hd (Below.refl _ _);have HS1:=Hd hs1;have HX0:=Hd hx0;have HW1:=Hd hw1;have hlp:=hL.short;have hlf:=hF.shortF;have HP:=Hd hp;have HF':=Hd hf;have HV':=Hd hv;exact main K w A c A' c' A'' c'' w1 ⟨HXC,KAll,KPl,KNm,KOb,KBi,KOv,HREP,HCN,HBZ,HB,HS1,HX0,HW1,hlp,hlf,hlv⟩
end Go.Proofs.YtlpfpehegddcfaaGreatDoor
