import Derived.Test.YtlpfpehegddcfaaGreatDoorMv14
import Derived.Test.YtlpfpehegddcfaaGreatDoorMv15
namespace Go.Proofs.YtlpfpehegddcfaaGreatDoor
set_option maxRecDepth 100000
set_option maxHeartbeats 64000000
open Go.RowKit
def P2 (l:List ByteArray):Prop:=l.Pairwise fun a b=>Dj a b = -1
theorem Sd {a b c:ByteArray} (h1:Dj a b = -1) (h2:Dj b c = -1):Dj a c = -1:=H6.2 (List.lt_trans (H6.1 h1) (H6.1 h2))
theorem Jft {F:List ByteArray} {t:ByteArray} {k:Nat} (hA:P2 F) (hk:k<=F.length) (hgt:∀ j (h:j<F.length),k<=j->Dj F[j] t=1) (hlt:∀ j (h:j<F.length),j+1=k->Dj F[j] t = -1):P2 (F.take k++t :: F.drop k):=by
 have hlt2:∀ i (hi:i<F.length),i<k->Dj F[i] t = -1:=fun i hi hik=>by
  rcases Nat.lt_or_ge (i+1) k with h | h
  ·have h1:=hlt (k - 1) (by omega) (by omega);have h2:=List.pairwise_iff_getElem.1 hA i (k - 1) hi (by omega) (by omega);exact Sd h2 h1
  ·exact hlt i hi (by omega)
 have hA2:=hA;unfold P2 at hA2;rw[<-List.take_append_drop k F,List.pairwise_append] at hA2;obtain⟨h1,h2,h3⟩:=hA2;refine List.pairwise_append.2 ⟨h1,List.pairwise_cons.2 ⟨fun b hb=>?_,h2⟩,fun a ha b hb=>?_⟩
 ·obtain⟨j,hj,rfl⟩:=List.getElem_of_mem hb;rw[List.getElem_drop];have:=hgt (k+j) (by simp at hj;omega) (by omega);rw[Nv,this]
 ·rcases List.mem_cons.1 hb with rfl | hb
  ·obtain⟨j,hj,rfl⟩:=List.getElem_of_mem ha;rw[List.getElem_take];exact hlt2 _ (by simp at hj;omega) (by simp at hj;omega)
  ·exact h3 a ha b hb
theorem Jfo {F:List ByteArray} {t:ByteArray} {k:Nat} (x:ByteArray):x∈F.take k++t :: F.drop k↔x=t\/x∈F:=by
 rw[List.mem_append,List.mem_cons]
 constructor
 ·rintro (h | h | h)
  ·exact .inr (List.mem_of_mem_take h)
  ·exact .inl h
  ·exact .inr (List.mem_of_mem_drop h)
 ·rintro (h | h)
  ·exact .inr (.inl h)
  ·rw[<-List.take_append_drop k F] at h;rcases List.mem_append.1 h with h | h
   ·exact .inl h
   ·exact .inr (.inr h)
theorem Ih:(Tryz.prog.info? 9).map (fun i=>(i.zero,i.size,i.bytes))=some (some (.string ⟨#[]⟩),1,16):=by kernel_rfl
theorem OutS.list {B:Nat} {w:World} {v:Value} {l:List ByteArray} (h:OutS B w v l) (hl:l.length<=1000000000000000):∃ A c,v=.slice A l.length c/\ListS w l A:=by
 rcases h.of with ⟨rfl,rfl⟩ | ⟨g,c,rfl,hg,hs⟩
 ·exact⟨none,0,rfl,⟨0,0,fun h=>absurd h (by simp),by simp,fun i h=>absurd h (by simp)⟩⟩
 ·exact⟨_,_,rfl,hs.list hl⟩
structure Fr (v:Value) (w:World) (v':Value) (w':World):Prop where
 keep:∀ b,b<w.heap.size->v.ownBlock≠some b->w'.heap[b]?=w.heap[b]?
 own:v'.ownBlock=v.ownBlock\/∃ b,v'.ownBlock=some b/\w.heap.size<=b
theorem Fr.refl (v:Value) (w:World):Fr v w v w:=⟨fun _ _ _=>rfl,.inl rfl⟩
theorem Fr.trans {v v1 v2:Value} {w w1 w2:World} (h:Fr v w v1 w1) (h':Fr v1 w1 v2 w2) (hs:w.heap.size<=w1.heap.size):Fr v w v2 w2:=by
 refine⟨fun b hb hn=>?_,?_⟩
 ·refine (h'.keep b (by omega) ?_).trans (h.keep b hb hn);rcases h.own with e | ⟨c,e,hc⟩
  ·rw[e];exact hn
  ·rw[e];intro e2;injection e2 with e2;omega
 ·rcases h'.own with e | ⟨c,e,hc⟩
  ·rw[e];exact h.own
  ·exact .inr ⟨c,e,by omega⟩
theorem Fr.world {v v':Value} {w w0 w':World} (h:Fr v w v' w') (hb:Below w0.heap.size w0 w):Fr v w0 v' w':=
 ⟨fun b hb2 hn=>(h.keep b (Nat.lt_of_lt_of_le hb2 hb.size) hn).trans (hb.block b hb2),h.own.imp id fun ⟨b,e,hc⟩=>⟨b,e,Nat.le_trans hb.size hc⟩⟩
def Ts (v:Value) (B:Nat) (w:World) (l:List ByteArray) (s:ByteArray):Ending->World->Prop:=fun e w'=>∃ v' l',e=.returned v'/\OutS B w' v' l'/\P2 l'/\(∀ x,x∈l'↔x=s\/x∈l)/\l'.length<=l.length+1/\Below B w w'/\Fr v w v' w'
theorem Cy {l:List ByteArray} {s:ByteArray}:Cl l s=true↔s∈l:=by
 unfold Cl;rw[List.any_eq_true]
 constructor
 ·rintro⟨x,hx,h⟩;have:=of_decide_eq_true h;rw[<-this];exact hx
 ·exact fun h=>⟨s,h,decide_eq_true rfl⟩
theorem Jbu {B:Nat} {w:World} {v:Value} {l:List ByteArray} {s:ByteArray} (hO:OutS B w v l) (hA:P2 l) (hB:B<=w.heap.size) (hbd:l.length+1<=1099511627776) :
  Calls Tryz.prog 77 #[v,.string s] w (Ts v B w l s):=by
 obtain⟨A,c,rfl,hL⟩:=hO.list (by omega);have KI:=Hd (Jep (c:=c) hL s);have HO:=Hd hO;have HBD:=Hd hbd;have HA:=Hd hA;have HB:=Hd hB;have hll:l.length<=1099511627776:=by omega
 obtain⟨i0,hi0,hz0,hz1,hz2⟩:=D4 Ih;unfold Ts;clear hL hO hA hB hbd
 cases hin:Cl l s with
 | true=>
  have HM:=Hd (Cy.1 hin);rw[hin] at KI;go_enter Tryz.func77,Tryz.ntmps77;go_wp2_with fail;refine KI.out.mono ?_;rintro e w2 ⟨rfl,rfl⟩;go_wp2_with fail;go_ret
  exact⟨_,l,rfl,HO.out,HA.out,fun x=>⟨.inr,fun h=>h.elim (fun e=>e ▸ HM.out) id⟩,by omega,Below.refl _ _,Fr.refl _ _⟩
 | false=>
  have HN:Hid (¬ s∈l):=Hd (fun h=>by rw[Cy.2 h] at hin;cases hin);rw[hin] at KI;clear hin;have HOWA:Hid ((w.alloc (.cells #[.string s] 9)).ownsRow B 9 1 (.slice A l.length c) l.length (l.map .string)):=Hd (HO.out.later ((Below.refl _ _).alloc (Nat.le_refl _) _));have HC2:=Hd (Dn w [.string s] 9);have HLA:Hid ((l++[s]).length=l.length+1):=Hd (by simp);go_enter Tryz.func77,Tryz.ntmps77;go_wp2_with fail;refine KI.out.mono ?_;rintro e w2 ⟨rfl,rfl⟩;go_wp2_with (at_builtin;refine wpList_plain rfl fun K hK=>?_;go_loud (refine Bz _ _ 46 rfl B 9 i0 (.string ⟨#[]⟩) 1 16 Tryz.underlying46 hi0 hz0 hz1 hz2 rfl (by decide) _ _ _ rfl HOWA.out ⟨w2.heap.size,0,none⟩ 1 1 [.string s] rfl rfl ?a0 ?a1 ?a2 ?a3 ?a4 ?_))
  case a0=>exact HC2.out
  case a1=>
   intro u hu;simp only[List.mem_cons,List.not_mem_nil,or_false] at hu;rw[hu];rfl
  case a2=>have:=HBD.out;unfold maxLen;omega
  case a3=>have:=HBD.out;omega
  case a4=>have:=HB.out;simp only[World.size_alloc];omega
  intro v5 w5 hown5 hg5 _ hwhere;refine hK _ _ ?_;clear hK K;have ho5:OutS B w5 v5 (l++[s]):=by
   unfold OutS;rw[HLA.out,List.map_append];exact hown5
  have hb5:Below B w2 w5:=((Below.refl B w2).alloc HB.out _).grown hg5 (by have:=HB.out;simp only[World.size_alloc];omega) fun k hk=>(HOWA.out.lt k hk).1;rcases ho5.of with ⟨-,hnil⟩ | ⟨g5,c5,rfl,hgg5,hin5⟩
  ·exact absurd hnil (by simp)
  have HIN5:=Hd hin5;have HGG:=Hd hgg5;have HB5:=Hd hb5;have hg5n:∀ b,b<w2.heap.size->(Value.slice A l.length c).ownBlock≠some b->b≠g5:=fun b hb hn e=>by
   rcases hwhere with h | h
   ·exact hn (by rw[<-h,e];rfl)
   ·have h2:g5=w2.heap.size+1:=(by first | exact Option.some.inj h | (have h3:=Option.some.inj h;simpa using h3));omega
  have HGN:=Hd hg5n;have HOWN:Hid ((Value.slice (some ⟨g5,0,none⟩) (l.length+1) c5).ownBlock=(Value.slice A l.length c).ownBlock\/∃ b,(Value.slice (some ⟨g5,0,none⟩) (l.length+1) c5).ownBlock=some b/\w2.heap.size<=b):=Hd (by
   rcases hwhere with h | h
   ·exact .inl h
   ·have h2:g5=w2.heap.size+1:=(by first | exact Option.some.inj h | (have h3:=Option.some.inj h;simpa using h3));exact .inr ⟨g5,rfl,by omega⟩)
  have HKP:Hid (∀ b,b<w2.heap.size->(Value.slice A l.length c).ownBlock≠some b->w5.heap[b]?=w2.heap[b]?):=Hd fun b hb hn=>(hg5.block b (by simp only[World.size_alloc];omega) hn.symm).trans (Below.heap_alloc _ _ _ hb);rw[HLA.out];have wr9:wrap64 (((l.length+1:Nat):Int) - 1)=((l.length:Nat):Int):=by rw[Cf (by omega) (by omega)];omega
  clear hown5 hg5 ho5 hb5 hin5 hgg5 hwhere hg5n;go_wp2_with fail
  go_loopw [5] (fun v wr=>∃ (k:Nat) (x:ByteArray),k<=l.length/\v=.int .i64 k/\StrI wr g5 c5 (l.take k++x :: l.drop k)/\(∀ j (h:j<l.length),k<=j->Dj l[j] s=1)/\Below B w2 wr/\(∀ b,b<w2.heap.size->(Value.slice A l.length c).ownBlock≠some b->wr.heap[b]?=w2.heap[b]?)) (fun v _=>(intOf v).toNat)
  case atStart=>exact⟨l.length,s,Nat.le_refl _,by first | rfl | rw[wr9],by rw[List.take_length,List.drop_length];exact HIN5.out,fun j h hj=>absurd h (by omega),HB5.out,HKP.out⟩
  case round=>
   obtain⟨k,x,hkl,rfl,hrow,hgt,hbr,hkp⟩:=hrel;have HKR:Hid (∀ j y,∀ b,b<w2.heap.size->(Value.slice A l.length c).ownBlock≠some b->(wr.setCell ⟨g5,j,none⟩ y).heap[b]?=w2.heap[b]?):=Hd fun j y b hb hn=>(Below.heap_setCell _ _ _ _ (HGN.out b hb hn)).trans (hkp b hb hn);clear hkp;have HGT:=Hd hgt;have HBR:=Hd hbr;have hltk:(l.take k).length=k:=by simp;omega
   have hset:=hrow.set (s:=s);rw[hltk] at hset;have hcx:=hrow.reps k x (by rw[List.getElem?_append_right (by omega),hltk,Nat.sub_self];rfl);obtain⟨cur,hcur,-⟩:=hrow.blk;have hfr:∀ o,wr.frozen? ⟨g5,o,none⟩=false:=fun o=>Lib.frozen_of_heap hcur o;have HFIN:Hid ((∀ j (h:j<l.length),j+1=k->Dj l[j] s = -1)->∃ v' l',Ending.returned (.slice (some ⟨g5,0,none⟩) (l.length+1) c5)=.returned v'/\OutS B (wr.setCell ⟨g5,k,none⟩ (.string s)) v' l'/\P2 l'/\(∀ x,x∈l'↔x=s\/x∈l)/\l'.length<=l.length+1/\Below B w2 (wr.setCell ⟨g5,k,none⟩ (.string s))/\Fr (.slice A l.length c) w2 v' (wr.setCell ⟨g5,k,none⟩ (.string s))):=Hd fun hlt=>by
    have hl:(l.take k++s :: l.drop k).length=l.length+1:=(by simp;omega);have h1:=hset.out HGG.out;rw[hl] at h1;exact⟨_,_,rfl,h1,Jft HA.out hkl HGT.out hlt,Jfo,by omega,hbr.setCell HGG.out _,HKR.out _ _,HOWN.out⟩
   have i2:(k:Int)<(l.length:Int)+1:=by omega
   have i3:(0:Int)<=(k:Int):=by omega
   by_cases hk0:k=0
   ·subst hk0;have HF2:=Hd (HFIN.out fun j _ hj=>absurd hj (by omega));clear hkl hrow hgt hbr hltk hset hcur HFIN;go_wp2_with fail;go_ret
    exact HF2.out
   ·obtain⟨j,rfl⟩:∃ j,k=j+1:=⟨k - 1,by omega⟩;have hjl:j<l.length:=(by omega);have hcj:=hrow.reps j l[j] (by rw[List.getElem?_append_left (by omega),List.getElem?_take,if_pos (by omega)];exact List.getElem?_eq_getElem hjl);have hset2:=hrow.set (s:=l[j]);rw[hltk] at hset2;have HSET:Hid (StrI (wr.setCell ⟨g5,j+1,none⟩ (.string l[j])) g5 c5 (l.take j++l[j] :: l.drop j)):=Hd (by
     have e1:l.take (j+1)=l.take j++[l[j]]:=List.take_succ_eq_append_getElem hjl;rw[e1,List.append_assoc] at hset2;rw[List.drop_eq_getElem_cons hjl];exact hset2)
    have HNE:Hid (l[j]≠s):=Hd fun e=>HN.out (e ▸ List.getElem_mem hjl);have HGJ:Hid (Dj l[j] s=1->∀ a (h:a<l.length),j<=a->Dj l[a] s=1):=Hd fun e a h ha=>by
     rcases Nat.lt_or_ge j a with h1 | h1
     ·exact HGT.out a h (by omega)
     ·have:a=j:=by omega
      subst this;exact e
    have HLJ:Hid (Dj l[j] s = -1->∀ a (h:a<l.length),a+1=j+1->Dj l[a] s = -1):=Hd fun e a h ha=>by
     have:a=j:=by omega
     subst this;exact e
    have HBS:=Hd (fun y=>hbr.setCell (p:=⟨g5,j+1,none⟩) HGG.out y);have HJL:Hid (j<=l.length):=Hd (by omega);have hcs:=G7 l[j] s;generalize l[j]=y at hcj HSET HNE HGJ HLJ hcs;have wr1:wrap64 (((j+1:Nat):Int) - 1)=((j:Nat):Int):=(by rw[Cf (by omega) (by omega)];omega);have wr3:wrap64 (j:Int)=(j:Int):=Cf (by omega) (by omega);have i4:(0:Int)<=(j:Int):=(by omega);have i5:(j:Int)<(l.length:Int)+1:=(by omega);have i6:(j:Int)+1<(l.length:Int)+1:=(by omega);clear hkl hrow hgt hbr hltk hset hset2 hcur hk0 hjl;rcases hcs with ⟨ga,gb,ge⟩ | ⟨ga,gb,ge⟩ | ⟨ga,gb,ge⟩
    ·have HF2:=Hd (HFIN.out (HLJ.out ge));clear HFIN ge;go_wp2_with fail;go_ret
     exact HF2.out
    ·have HG2:=Hd (HGJ.out ge);clear HFIN ge;go_wp2_with fail;refine⟨⟨j,y,HJL.out,by first | rfl | (rw[wr1]) | (rw[wr3]),HSET.out,HG2.out,HBS.out _,HKR.out _ _⟩,?_⟩;first | (simp only[intOf];omega) | (rw[wr1];simp only[intOf];omega) | (rw[wr3];simp only[intOf];omega)
    ·exact absurd (Nw ge) HNE.out
theorem Jey (t:ByteArray) (n:Int) (ps:List Ty) (fs:Bp) (vs:Bm):E9 (.mk 9 t n ps fs vs) (decide (0<=n)):=by
 intro K w b o h;obtain⟨A,c,A2,c2,A3,c3,⟨x0,x1,x2,x3,x4,x5⟩,ht,hP,hF,hV⟩:=h.six;clear h ht hP hF hV;go_enter Tryz.func96,Tryz.ntmps96;go_wp2_with fail;go_ret
 exact⟨rfl,Below.refl _ _⟩
theorem Jdi (t:ByteArray) (n:Int) (ps:List Ty) (fs:Bp) (vs:Bm):E9 (.mk 16 t n ps fs vs) (Bo t):=by
 intro K w b o h;obtain⟨A,c,A2,c2,A3,c3,⟨x0,x1,x2,x3,x4,x5⟩,ht,hP,hF,hV⟩:=h.six;have KC:=Hd (Eu t w ht);generalize Bo t=r at KC ⊢;clear h ht hP hF hV;go_enter Tryz.func96,Tryz.ntmps96;go_wp2_with fail;refine KC.out.mono ?_;rintro e w2 ⟨rfl,hb2⟩;have HB2:=Hd hb2;clear hb2;go_wp2_with fail;go_ret
 exact⟨rfl,HB2.out⟩
theorem Jdm (t:ByteArray) (n:Int) (ps:List Ty) (fs:Bp) (vs:Bm):E9 (.mk 22 t n ps fs vs) (Bo t):=by
 intro K w b o h;obtain⟨A,c,A2,c2,A3,c3,⟨x0,x1,x2,x3,x4,x5⟩,ht,hP,hF,hV⟩:=h.six;have KC:=Hd (Eu t w ht);generalize Bo t=r at KC ⊢;clear h ht hP hF hV;go_enter Tryz.func96,Tryz.ntmps96;go_wp2_with fail;refine KC.out.mono ?_;rintro e w2 ⟨rfl,hb2⟩;have HB2:=Hd hb2;clear hb2;go_wp2_with fail;go_ret
 exact⟨rfl,HB2.out⟩
theorem Jdj (t:ByteArray) (n:Int) (ps:List Ty) (fs:Bp) (vs:Bm):E9 (.mk 17 t n ps fs vs) (Bo t):=by
 intro K w b o h;obtain⟨A,c,A2,c2,A3,c3,⟨x0,x1,x2,x3,x4,x5⟩,ht,hP,hF,hV⟩:=h.six;have KC:=Hd (Eu t w ht);generalize Bo t=r at KC ⊢;clear h ht hP hF hV;go_enter Tryz.func96,Tryz.ntmps96;go_wp2_with fail;refine KC.out.mono ?_;rintro e w2 ⟨rfl,hb2⟩;have HB2:=Hd hb2;clear hb2;go_wp2_with fail;go_ret
 exact⟨rfl,HB2.out⟩
theorem Jdf (t:ByteArray) (n:Int) (ps:List Ty) (fs:Bp) (vs:Bm) (fv:Ty->Bool) (hf:∀ v∈vs,∀ b∈v.2,Fu b (fv b)):E9 (.mk 13 t n ps fs vs) (Dy (C3 vs fv)):=by
 intro K w b o h;obtain⟨A,c,A2,c2,A3,c3,⟨x0,x1,x2,x3,x4,x5⟩,ht,hP,hF,hV⟩:=h.six;have KC:=Hd (Mi hV hf);generalize Dy (C3 vs fv)=r at KC ⊢;clear h ht hP hF hV hf;go_enter Tryz.func96,Tryz.ntmps96;go_wp2_with fail;refine KC.out.mono ?_;rintro e w2 ⟨rfl,hb2⟩;have HB2:=Hd hb2;clear hb2;go_wp2_with fail;go_ret
 exact⟨rfl,HB2.out⟩
theorem Jdg (t:ByteArray) (n:Int) (ps:List Ty) (fs:Bp) (vs:Bm) (fv:Ty->Bool) (hf:∀ f∈fs,Fu f.2.2 (fv f.2.2)):E9 (.mk 14 t n ps fs vs) (Ca (Bf fs fv)):=by
 intro K w b o h;obtain⟨A,c,A2,c2,A3,c3,⟨x0,x1,x2,x3,x4,x5⟩,ht,hP,hF,hV⟩:=h.six;have KC:=Hd (J0 hF hf);generalize Ca (Bf fs fv)=r at KC ⊢;clear h ht hP hF hV hf;go_enter Tryz.func96,Tryz.ntmps96;go_wp2_with fail;refine KC.out.mono ?_;rintro e w2 ⟨rfl,hb2⟩;have HB2:=Hd hb2;clear hb2;go_wp2_with fail;go_ret
 exact⟨rfl,HB2.out⟩
theorem Jdk (t:ByteArray) (n:Int) (ps:List Ty) (fs:Bp) (vs:Bm):E9 (.mk 20 t n ps fs vs) (Bo t && decide (0<=n) && decide (n<=3)):=by
 intro K w b o h;obtain⟨A,c,A2,c2,A3,c3,⟨x0,x1,x2,x3,x4,x5⟩,ht,hP,hF,hV⟩:=h.six;have KC:=Hd (Eu t w ht);have HX2:Hid (∀ wx,Below w.heap.size w wx->wx.cell? ⟨b,o+2,none⟩=some (.int .i64 n)):=Hd fun wx hx=>Aa hx x2;generalize Bo t=r at KC ⊢;clear h ht hP hF hV
 cases r with
 | false=>
  go_enter Tryz.func96,Tryz.ntmps96;go_wp2_with fail;refine KC.out.mono ?_;rintro e w2 ⟨rfl,hb2⟩;have HB2:=Hd hb2;clear hb2;go_wp2_with fail;go_ret
  exact⟨rfl,HB2.out⟩
 | true=>
  by_cases h0:0<=n
  ·have e0:decide (0<=n)=true:=by simpa using h0
   have E0:=Hd e0;go_enter Tryz.func96,Tryz.ntmps96;go_wp2_with fail;refine KC.out.mono ?_;rintro e w2 ⟨rfl,hb2⟩;have HB2:=Hd hb2;have y2:=HX2.out _ hb2;clear hb2;go_wp2_with fail;go_ret
   exact⟨by rw[E0.out];first | rfl | simp,HB2.out⟩
  ·have e0:decide (0<=n)=false:=by simpa using h0
   have e1:n<0:=by omega
   have E0:=Hd e0;go_enter Tryz.func96,Tryz.ntmps96;go_wp2_with fail;refine KC.out.mono ?_;rintro e w2 ⟨rfl,hb2⟩;have HB2:=Hd hb2;have y2:=HX2.out _ hb2;clear hb2;go_wp2_with fail;go_ret
   exact⟨by rw[E0.out];first | rfl | simp,HB2.out⟩
theorem Jdl (t:ByteArray) (n:Int) (ps:List Ty) (fs:Bp) (vs:Bm):E9 (.mk 21 t n ps fs vs) ((n == 0 && t.toList == []) || (n == 1 && Bo t)):=by
 intro K w b o h;obtain⟨A,c,A2,c2,A3,c3,⟨x0,x1,x2,x3,x4,x5⟩,ht,hP,hF,hV⟩:=h.six;have KC:=Hd (Eu t w ht);generalize Bo t=r at KC ⊢;clear h ht hP hF hV;by_cases h0:n=0
 ·subst h0
  cases hl:t.toList with
  | nil=>
   go_enter Tryz.func96,Tryz.ntmps96;go_wp2_with fail;go_ret
   exact⟨rfl,Below.refl _ _⟩
  | cons a l=>
   go_enter Tryz.func96,Tryz.ntmps96;go_wp2_with fail;go_ret
   exact⟨rfl,Below.refl _ _⟩
 ·have e0:(n == 0)=false:=by simpa using h0
  have E0:=Hd e0;by_cases h1:n=1
  ·subst h1;go_enter Tryz.func96,Tryz.ntmps96;go_wp2_with fail;refine KC.out.mono ?_;rintro e w2 ⟨rfl,hb2⟩;have HB2:=Hd hb2;clear hb2;go_wp2_with fail;go_ret
   exact⟨by first | rfl | simp,HB2.out⟩
  ·have e1:(n == 1)=false:=by simpa using h1
   have E1:=Hd e1;go_enter Tryz.func96,Tryz.ntmps96;go_wp2_with fail;go_ret
   exact⟨by rw[E0.out,E1.out];rfl,Below.refl _ _⟩
theorem Jdn (t:ByteArray) (n:Int) (ps:List Ty) (fs:Bp) (vs:Bm):E9 (.mk 23 t n ps fs vs) (ps.all fun p=>p.k == 13):=by
 intro K w b o h;obtain⟨A,c,A2,c2,A3,c3,⟨x0,x1,x2,x3,x4,x5⟩,ht,hP,hF,hV⟩:=h.six;have HP:=Hd hP;have hlp:=hP.short;clear h ht hP hF hV;go_enter Tryz.func96,Tryz.ntmps96;go_wp2_with fail
 go_loopw [101] (fun v wr=>∃ (i:Nat),i<=ps.length/\v=.int .i64 i/\(ps.all fun p=>p.k == 13)=(ps.drop i).all (fun p=>p.k == 13)/\wr=w) (fun v _=>ps.length - (intOf v).toNat)
 case atStart=>exact⟨0,by omega,rfl,by rw[List.drop_zero],rfl⟩
 case round=>
  obtain⟨i,hi,rfl,he,rfl⟩:=hrel;have HE:=Hd he;clear he;by_cases hin:i<ps.length
  ·have t1:decide ((i:Int)<(ps.length:Int))=true:=by simp;omega
   have wr2:wrap64 ((i:Int)+1)=((i+1:Nat):Int):=Ao (by omega);obtain⟨pb,po,hA,_,hr⟩:=HP.out.at (by omega);subst hA;obtain⟨q,hq,hcq⟩:∃ q,ps[i].k=q/\wr.cell? ⟨pb,po+i*6,none⟩=some (.int .i64 q):=by
    have h1:=hr i hin;generalize ps[i]=t at h1;obtain⟨k,s,n,ps,fs,vs⟩:=t;obtain⟨_,_,_,_,_,_,⟨x0,_⟩,_⟩:=h1.six;exact⟨k,rfl,x0⟩
   have HS:=Hd (P4 (p:=fun p:Ty=>p.k == 13) hin);have HM:=Hd (Ba hin);have HIn:=Hd hin;by_cases h13:q=13
   ·have HK:Hid (((ps[i]'hin).k == 13)=true):=Hd (by rw[hq];simpa using h13);have e13:(q != 13)=false:=(by simpa using h13);clear hr hi hq;go_wp2_with fail;refine⟨⟨i+1,HIn.out,by first | rfl | rw[wr2],by rw[HE.out,HS.out,HK.out];rfl,by first | rfl | trivial⟩,?_⟩;first | exact HM.out | (rw[wr2];exact HM.out)
   ·have HK:Hid (((ps[i]'hin).k == 13)=false):=Hd (by rw[hq];simpa using h13);have e13:(q != 13)=true:=(by simpa using h13);clear hr hi hq;go_wp2_with fail;go_ret
    exact⟨by rw[HE.out,HS.out,HK.out];rfl,Below.refl _ _⟩
  ·have t1:decide ((i:Int)<(ps.length:Int))=false:=by simp;omega
   have HE1:Hid ((ps.all fun p=>p.k == 13)=true):=Hd (by rw[HE.out,List.drop_eq_nil_of_le (by omega)];rfl);clear hi;go_wp2_with fail;go_ret
   exact⟨by rw[HE1.out];rfl,Below.refl _ _⟩
theorem Jdo (k:Int) (t:ByteArray) (n:Int) (ps:List Ty) (fs:Bp) (vs:Bm) (h9:k≠9) (h13:k≠13) (h14:k≠14) (h15:k≠15) (h16:k≠16) (h17:k≠17) (h20:k≠20) (h21:k≠21) (h22:k≠22) (h23:k≠23):E9 (.mk k t n ps fs vs) true:=by
 intro K w b o h;obtain⟨A,c,A2,c2,A3,c3,⟨x0,x1,x2,x3,x4,x5⟩,-⟩:=h.six;have t9:(k == 9)=false:=by simpa using h9
 have t13:(k == 13)=false:=by simpa using h13
 have t14:(k == 14)=false:=by simpa using h14
 have t15:(k == 15)=false:=by simpa using h15
 have t16:(k == 16)=false:=by simpa using h16
 have t17:(k == 17)=false:=by simpa using h17
 have t20:(k == 20)=false:=by simpa using h20
 have t21:(k == 21)=false:=by simpa using h21
 have t22:(k == 22)=false:=by simpa using h22
 have t23:(k == 23)=false:=by simpa using h23
 clear h h9 h13 h14 h15 h16 h17 h20 h21 h22 h23;go_enter Tryz.func96,Tryz.ntmps96;go_wp2_with fail;go_ret
 exact⟨rfl,Below.refl _ _⟩
theorem Jav (k:Int) (t:ByteArray) (n:Int) (ps:List Ty) (fs:Bp) (vs:Bm) (fv:Ty->Bool) (hf:∀ f∈fs,Fu f.2.2 (fv f.2.2)) (hv:∀ v∈vs,∀ b∈v.2,Fu b (fv b)) :
  E9 (.mk k t n ps fs vs) (Bh k t n ps (Ca (Bf fs fv)) (Dy (C3 vs fv))):=by
 unfold Bh;by_cases h9:k=9
 ·subst h9;exact Jey t n ps fs vs
 rw[if_neg h9];by_cases h16:k=16
 ·subst h16;exact Jdi t n ps fs vs
 by_cases h22:k=22
 ·subst h22;exact Jdm t n ps fs vs
 by_cases h17:k=17
 ·subst h17;exact Jdj t n ps fs vs
 rw[if_neg (by omega)];by_cases h13:k=13
 ·subst h13;exact Jdf t n ps fs vs fv hv
 rw[if_neg h13];by_cases h14:k=14
 ·subst h14;exact Jdg t n ps fs vs fv hf
 rw[if_neg h14];by_cases h15:k=15
 ·subst h15;exact Jdh t n ps fs vs
 rw[if_neg h15];by_cases h20:k=20
 ·subst h20;exact Jdk t n ps fs vs
 rw[if_neg h20];by_cases h21:k=21
 ·subst h21;exact Jdl t n ps fs vs
 rw[if_neg h21];by_cases h23:k=23
 ·subst h23;exact Jdn t n ps fs vs
 rw[if_neg h23];exact Jdo k t n ps fs vs h9 h13 h14 h15 h16 h17 h20 h21 h22 h23
theorem Zk (t:Ty):Fu t (Ab t):=Ty.ind (C:=fun t=>Fu t (Ab t)) (fun k t n ps fs vs hp hf hv=>by
 rw[Am];exact Wg k t n ps fs vs _ Ab (Jav k t n ps fs vs Ab hf hv) hp) t
def D9 (t:Ty):Bool:=decide (Ai t<=4096) && Ab t
theorem Lt {K:Nat->Prop} {w:World} {t:Ty} {cs:List Value} (h:RepT K w t cs) :
  Calls Tryz.prog 35 #[.agg cs.toArray] w fun e w'=>e=.returned (.bool (D9 t))/\Below w.heap.size w w':=Ss h (Zk t)
theorem X6:Jd4:=fun K w0 w g c s h hb hg hs=>by
 by_cases h2:s.length<2
 ·exact Sf h hb h2
 ·exact Vp h hb hg (by omega) hs
theorem O0 {K:Nat->Prop} {w:World} {l:List Ty} {A:Option Addr} {c:Nat} (hL:ListT K w l A c) (hbd:(Bb l).length<=1099511627776) (hlo:∀ b,K b->b<w.heap.size) :
  Calls Tryz.prog 68 #[.slice A l.length c] w (Gl K w l):=Xf Jbf Jbg X6 X7 hL hbd hlo
def Aw:Ty->List ByteArray
 | .mk k t _ ps fs _=>if k=22 then [t] else (ps.attach.mapIdx fun i ⟨p,_⟩=>if (k == 21 && i == 1) then [] else Aw p).flatten++(fs.attach.map fun ⟨f,_⟩=>Aw f.2.2).flatten
termination_by t=>SizeOf.sizeOf t
decreasing_by
 ·exact Dt ‹_›
 ·exact Ec ‹_›
def Bu (k:Int):Nat->List Ty->List ByteArray
 | _,[]=>[]
 | i,p :: l=>(if (k == 21 && i == 1) then [] else Aw p)++Bu k (i+1) l
def Cs (l:Bp):List ByteArray:=(l.map fun f=>Aw f.2.2).flatten
theorem Ks {α:Type} (k:Int) (g:α->Ty):∀ (l:List α) (j:Nat),(l.mapIdx fun i p=>if (k == 21 && (i+j) == 1) then [] else Aw (g p)).flatten=Bu k j (l.map g)
 | [],_=>rfl
 | a :: l,j=>by
  rw[List.mapIdx_cons,List.flatten_cons,List.map_cons,Bu,<-Ks k g l (j+1)];simp only[Nat.zero_add,Nat.add_assoc,Nat.add_comm 1 j]
theorem Dh (k t n ps fs vs):Aw (.mk k t n ps fs vs)=if k=22 then [t] else Bu k 0 ps++Cs fs:=by
 rw[Aw];have h:=Ks k (fun p:{x // x∈ps}=>p.1) ps.attach 0;simp only[Nat.add_zero] at h;rw[h];unfold Cs;simp only[List.map_attach_eq_pmap,List.pmap_eq_map,List.map_id']
theorem K0 {k:Int} {ps:List Ty} {i:Nat} (h:i<ps.length):Bu k i (ps.drop i)=(if (k == 21 && i == 1) then [] else Aw ps[i])++Bu k (i+1) (ps.drop (i+1)):=by
 rw[List.drop_eq_getElem_cons h,Bu]
theorem Kz {fs:Bp} {i:Nat} (h:i<fs.length):Cs (fs.drop i)=Aw fs[i].2.2++Cs (fs.drop (i+1)):=by
 rw[List.drop_eq_getElem_cons h,Cs,List.map_cons,List.flatten_cons];rfl
theorem Ku (k:Int):∀ (ps:List Ty) (i:Nat),(∀ p∈ps,(C6 p=true↔Aw p≠[]))->(Ex k i ps=true↔Bu k i ps≠[])
 | [],_,_=>by simp[Ex,Bu]
 | p :: l,i,h=>by
  rw[Ex,Bu,Bool.or_eq_true,Ku k l (i+1) fun q hq=>h q (List.mem_cons_of_mem _ hq),Bool.and_eq_true,h p List.mem_cons_self]
  cases hq:(k == 21 && i == 1) <;> simp only[Bool.not_false,Bool.not_true,Bool.false_eq_true,if_false,if_true,ne_eq,List.append_eq_nil_iff,List.nil_append,true_and,false_and,false_or,not_and] <;> (try by_cases e:Aw p=[] <;> simp[e])
theorem Sz (t:Ty):C6 t=true↔Aw t≠[]:=by
 refine Ty.ind (C:=fun t=>C6 t=true↔Aw t≠[]) (fun k t n ps fs vs hp hf _=>?_) t;rw[F0,Dh];by_cases hk:k=22
 ·rw[if_pos hk,hk];simp
 ·rw[if_neg hk];have e:(k == 22)=false:=by simpa using hk
  rw[e,Bool.false_or,Bool.or_eq_true,Ku k ps 0 hp];have hF:Gi fs=true↔Cs fs≠[]:=by
   unfold Gi Cs;rw[List.any_eq_true,ne_eq,List.flatten_eq_nil_iff]
   constructor
   ·rintro⟨f,hm,h⟩ hn;exact (hf f hm).1 h (hn _ (List.mem_map_of_mem hm))
   ·intro h;apply Classical.byContradiction;intro hn;refine h fun l hl=>?_;obtain⟨f,hm,rfl⟩:=List.mem_map.1 hl;apply Classical.byContradiction;intro hne;exact hn ⟨f,hm,(hf f hm).2 hne⟩
  rw[hF,ne_eq,ne_eq,ne_eq,List.append_eq_nil_iff];by_cases e1:Bu k 0 ps=[] <;> simp[e1]
structure InfSt (w0:World) (w:World) (v:Value) (l N:List ByteArray) (v':Value) (w':World) (l':List ByteArray):Prop where
 own:OutS w0.heap.size w' v' l'
 asc:P2 l'
 mem:∀ x,x∈l'↔x∈l\/x∈N
 len:l'.length<=l.length+N.length
 low:Below w0.heap.size w0 w'
 big:w.heap.size<=w'.heap.size
 fr:Fr v w v' w'
theorem InfSt.step {w0 w w1 w2:World} {v v1 v2:Value} {l N M l1 l2:List ByteArray} (h:InfSt w0 w v l N v1 w1 l1) (h':InfSt w0 w1 v1 l1 M v2 w2 l2):InfSt w0 w v l (N++M) v2 w2 l2:=by
 refine⟨h'.own,h'.asc,fun x=>?_,?_,h'.low,Nat.le_trans h.big h'.big,h.fr.trans h'.fr h.big⟩
 ·rw[h'.mem,h.mem,List.mem_append,or_assoc]
 ·have:=h.len;have:=h'.len;rw[List.length_append];omega
theorem InfSt.from {w0 wb w w':World} {v v':Value} {l N l':List ByteArray} (h:InfSt w0 w v l N v' w' l') (hb:Below wb.heap.size wb w):InfSt w0 wb v l N v' w' l':=
 ⟨h.own,h.asc,h.mem,h.len,h.low,Nat.le_trans hb.size h.big,h.fr.world hb⟩
def Xo (t:Ty):Prop:=∀ (K:Nat->Prop) (w0 w:World) (cs:List Value) (v:Value) (l:List ByteArray),RepT K w0 t cs->Below w0.heap.size w0 w->OutS w0.heap.size w v l->P2 l->l.length+(Aw t).length<=1099511627776 ->
 Calls Tryz.prog 79 #[.agg cs.toArray,v] w fun e w'=>∃ v' l',e=.returned v'/\InfSt w0 w v l (Aw t) v' w' l'
theorem Rb (k:Int) (s:ByteArray) (n:Int) (ps:List Ty) (fs:Bp) (vs:Bm) (hp:∀ p∈ps,Xo p) (hf:∀ f∈fs,Xo f.2.2):Xo (.mk k s n ps fs vs):=by
 intro K w0 w cs v l ht hb hO hA hbd;obtain⟨Ap,cp,Af,cf,Av,cv,rfl,-,hLp,hLf,-⟩:=ht.inv;have hlp:=hLp.short;have hlf:=hLf.shortF;obtain⟨As,c,rfl,-⟩:=hO.list (by omega);have HB1:=Hd (hb.alloc hb.size (.cells (Ar k s n Ap ps.length cp Af fs.length cf Av vs.length cv).toArray 26));have HBW:Hid (Below w.heap.size w (w.alloc (.cells (Ar k s n Ap ps.length cp Af fs.length cf Av vs.length cv).toArray 26))):=Hd ((Below.refl _ _).alloc (Nat.le_refl _) _);have HO1:=Hd (hO.later HBW.out);have HLT:=Hd fun b (h:(Value.slice As l.length c).ownBlock=some b)=>(hO.lt b h);have HC:=Hd (Dn w (Ar k s n Ap ps.length cp Af fs.length cf Av vs.length cv) 26);have x0:(w.alloc (.cells (Ar k s n Ap ps.length cp Af fs.length cf Av vs.length cv).toArray 26)).cell? ⟨w.heap.size,0,none⟩=some (.int .i64 k):=HC.out 0 _ rfl;have x1:(w.alloc (.cells (Ar k s n Ap ps.length cp Af fs.length cf Av vs.length cv).toArray 26)).cell? ⟨w.heap.size,1,none⟩=some (.string s):=HC.out 1 _ rfl;have x3:(w.alloc (.cells (Ar k s n Ap ps.length cp Af fs.length cf Av vs.length cv).toArray 26)).cell? ⟨w.heap.size,3,none⟩=some (.slice Ap ps.length cp):=HC.out 3 _ rfl;have x4:(w.alloc (.cells (Ar k s n Ap ps.length cp Af fs.length cf Av vs.length cv).toArray 26)).cell? ⟨w.heap.size,4,none⟩=some (.slice Af fs.length cf):=HC.out 4 _ rfl;have HA:=Hd hA;have HN:=Hd (Dh k s n ps fs vs);have HBD:=Hd hbd;by_cases hk:k=22
 ·subst hk;have HN22:Hid (Aw (.mk 22 s n ps fs vs)=[s]):=Hd (by rw[HN.out,if_pos rfl]);have KA:=Hd (Jbu (s:=s) HO1.out hA HB1.out.size (by rw[HN.out,if_pos rfl] at hbd;simpa using hbd));clear ht hb hO hA hbd hLp hLf hp hf;go_enter Tryz.func79,Tryz.ntmps79;go_wp2_with fail;refine KA.out.mono ?_;rintro e w2 ⟨v2,l2,rfl,o2,a2,m2,n2,b2,f2⟩;go_wp2_with fail;go_ret
  refine⟨_,_,rfl,InfSt.from ⟨o2,a2,fun x=>?_,?_,HB1.out.trans b2,b2.size,f2⟩ HBW.out⟩
  ·rw[m2,HN22.out,List.mem_singleton,or_comm]
  ·rw[HN22.out];exact n2
 ·have te:(k == 22)=false:=by simpa using hk
  have HNN:Hid (Aw (.mk k s n ps fs vs)=Bu k 0 ps++Cs fs):=Hd (by rw[HN.out,if_neg hk]);have HP:=Hd hp;have HF:=Hd hf;have HLP:=Hd hLp;have HLF:=Hd hLf;have HLV:Hid ((Value.slice As l.length c).ownBlock≠some w.heap.size):=Hd fun e=>by have:=(HLT.out _ e).2;omega
  have HX:Hid (∀ v2 w2,Fr (.slice As l.length c) (w.alloc (.cells (Ar k s n Ap ps.length cp Af fs.length cf Av vs.length cv).toArray 26)) v2 w2->w2.cell? ⟨w.heap.size,0,none⟩=some (.int .i64 k)/\w2.cell? ⟨w.heap.size,3,none⟩=some (.slice Ap ps.length cp)/\w2.cell? ⟨w.heap.size,4,none⟩=some (.slice Af fs.length cf)):=Hd fun v2 w2 h=>by
   have e:=h.keep w.heap.size (by simp) HLV.out;exact⟨(World.cell?_of_block e).trans x0,(World.cell?_of_block e).trans x3,(World.cell?_of_block e).trans x4⟩
  have HST0:Hid (InfSt w0 (w.alloc (.cells (Ar k s n Ap ps.length cp Af fs.length cf Av vs.length cv).toArray 26)) (.slice As l.length c) l [] (.slice As l.length c) (w.alloc (.cells (Ar k s n Ap ps.length cp Af fs.length cf Av vs.length cv).toArray 26)) l):=Hd ⟨HO1.out,HA.out,fun x=>by simp,by simp,HB1.out,Nat.le_refl _,Fr.refl _ _⟩;clear ht hb hO hA hbd hLp hLf hp hf hk;go_enter Tryz.func79,Tryz.ntmps79;go_wp2_with fail;have HW1:Hid ((w.alloc (.cells (Ar k s n Ap ps.length cp Af fs.length cf Av vs.length cv).toArray 26)).heap.size=w.heap.size+1):=Hd (by simp);generalize (w.alloc (.cells (Ar k s n Ap ps.length cp Af fs.length cf Av vs.length cv).toArray 26))=w1 at *
  go_loopw [1,5] (fun ov iv wr=>∃ (i:Nat) (N l1:List ByteArray),i<=ps.length/\iv=.int .i64 i/\N++Bu k i (ps.drop i)=Bu k 0 ps/\InfSt w0 w1 (.slice As l.length c) l N ov wr l1) (fun _ v _=>ps.length - (intOf v).toNat)
  case atStart=>exact⟨0,[],l,by omega,rfl,by rw[List.drop_zero];rfl,HST0.out⟩
  case round=>
   obtain⟨i,N,l1,hi,rfl,he,hst⟩:=hrel;have HST:=Hd hst;have HE:=Hd he;have HNL:Hid (N.length+(Bu k i (ps.drop i)).length=(Bu k 0 ps).length):=Hd (by rw[<-he,List.length_append]);obtain⟨z0,z3,z4⟩:=HX.out _ _ hst.fr;have HLN:Hid (l1.length+(Bu k i (ps.drop i)).length+(Cs fs).length<=1099511627776):=Hd (by
    have h1:=hst.len;have h2:=HBD.out;rw[HNN.out,List.length_append] at h2;have h3:=HNL.out;omega)
   obtain⟨A1,c1,rfl,-⟩:=hst.own.list (by have:=HLN.out;omega);clear hst he;by_cases hin:i<ps.length
   ·have t1:decide ((i:Int)<(ps.length:Int))=true:=(by simp;omega);have wr2:wrap64 ((i:Int)+1)=((i+1:Nat):Int):=Ao (by omega);have HM:=Hd (Ba hin);obtain⟨b,o,hAA,_,hat⟩:=HLP.out.at (by omega);have hti:=hat i hin;have hpi:=HP.out _ (List.getElem_mem hin);have HSP0:=Hd (K0 (k:=k) hin);have HIn:Hid (i+1<=ps.length):=Hd hin;subst hAA;generalize ps[i]=t at hti hpi HSP0;obtain⟨cs,hcs,hrep⟩:=hti;obtain⟨k2,s2,n2,ps2,fs2,vs2⟩:=t;have KI:Hid ((k == 21 && i == 1)=false->Calls Tryz.prog 79 #[.agg cs.toArray,.slice A1 l1.length c1] wr _):=Hd fun hq=>hpi K w0 wr cs _ l1 hrep HST.out.low HST.out.own HST.out.asc (by
     have h1:=HLN.out;rw[HSP0.out,hq,if_neg (by decide),List.length_append] at h1;omega)
    obtain⟨Aq,cq,Ag,cg,Ah,ch,rfl,-⟩:=hrep.inv;have y0:=Aa HST.out.low (hcs 0 _ rfl);have y1:=Aa HST.out.low (hcs 1 _ rfl);have y2:=Aa HST.out.low (hcs 2 _ rfl);have y3:=Aa HST.out.low (hcs 3 _ rfl);have y4:=Aa HST.out.low (hcs 4 _ rfl);have y5:=Aa HST.out.low (hcs 5 _ rfl);rw[Nat.add_zero] at y0;simp only[Ar] at KI;clear hi hat hpi hcs hrep;by_cases h21:k=21
    ·have b21:(k != 21)=false:=(by simpa using h21);have E21:Hid ((k == 21)=true):=Hd (by simpa using h21);clear h21;by_cases h1:i=1
     ·have b1:((i:Int) != 1)=false:=(by subst h1;rfl);have HQ:Hid ((k == 21 && i == 1)=true):=Hd (by rw[E21.out,h1];rfl);clear KI h1;go_wp2_with fail;refine⟨⟨i+1,N,l1,HIn.out,by first | rfl | rw[wr2],?p1,HST.out⟩,?p3⟩
      case p1=>rw[<-HE.out,HSP0.out,HQ.out,if_pos rfl];rfl
      case p3=>first | exact HM.out | (rw[wr2];exact HM.out)
     ·have b1:((i:Int) != 1)=true:=(by simp;omega);have HQ:Hid ((k == 21 && i == 1)=false):=Hd (by rw[E21.out];simpa using h1);have HSP:Hid (N++Bu k i (ps.drop i)=Bu k 0 ps):=HE;rw[HSP0.out] at HSP
      replace KI:=Hd (KI.out HQ.out)
      clear h1;go_wp2_with fail;refine (KI.out).mono ?_;rintro e w2 ⟨v2,l2,rfl,h2⟩;have HS2:=Hd (HST.out.step h2);have HF2:=Hd (HX.out _ _ HS2.out.fr);clear h2 KI y0 y1 y2 y3 y4 y5;go_wp2_with fail;refine⟨⟨i+1,_,l2,HIn.out,by first | rfl | rw[wr2],?p1,HS2.out⟩,?p3⟩
      case p1=>rw[<-HSP.out,HQ.out,if_neg (by decide),List.append_assoc]
      case p3=>first | exact HM.out | (rw[wr2];exact HM.out)
    ·have b21:(k != 21)=true:=(by simpa using h21);have HQ:Hid ((k == 21 && i == 1)=false):=Hd (by simp[h21]);have HSP:Hid (N++Bu k i (ps.drop i)=Bu k 0 ps):=HE;rw[HSP0.out] at HSP
     replace KI:=Hd (KI.out HQ.out)
     clear h21;go_wp2_with fail;refine (KI.out).mono ?_;rintro e w2 ⟨v2,l2,rfl,h2⟩;have HS2:=Hd (HST.out.step h2);have HF2:=Hd (HX.out _ _ HS2.out.fr);clear h2 KI y0 y1 y2 y3 y4 y5;go_wp2_with fail;refine⟨⟨i+1,_,l2,HIn.out,by first | rfl | rw[wr2],?p1,HS2.out⟩,?p3⟩
     case p1=>rw[<-HSP.out,HQ.out,if_neg (by decide),List.append_assoc]
     case p3=>first | exact HM.out | (rw[wr2];exact HM.out)
   ·have t1:decide ((i:Int)<(ps.length:Int))=false:=(by simp;omega);have HE1:Hid (N=Bu k 0 ps):=Hd (by rw[<-HE.out,List.drop_eq_nil_of_le (by omega),Bu,List.append_nil]);clear hi;go_wp2_with fail
    go_loopw [1,6] (fun ov iv wx=>∃ (i:Nat) (N l1:List ByteArray),i<=fs.length/\iv=.int .i64 i/\N++Cs (fs.drop i)=Bu k 0 ps++Cs fs/\InfSt w0 w1 (.slice As l.length c) l N ov wx l1) (fun _ v _=>fs.length - (intOf v).toNat)
    case atStart=>exact⟨0,N,l1,by omega,rfl,by rw[List.drop_zero,HE1.out],HST.out⟩
    case round=>
     clear z0 z3 z4 HST HLN;obtain⟨i,N,l1,hi,rfl,he,hst⟩:=hrel;have HST:=Hd hst;have HE:=Hd he;obtain⟨z0,z3,z4⟩:=HX.out _ _ hst.fr;have HLN:Hid (l1.length+(Cs (fs.drop i)).length<=1099511627776):=Hd (by
      have h1:=hst.len;have h2:=HBD.out;rw[HNN.out,<-he,List.length_append] at h2;omega)
     obtain⟨A1,c1,rfl,-⟩:=hst.own.list (by have:=HLN.out;omega);clear hst he;by_cases hin:i<fs.length
     ·have t1:decide ((i:Int)<(fs.length:Int))=true:=(by simp;omega);have wr2:wrap64 ((i:Int)+1)=((i+1:Nat):Int):=Ao (by omega);have HM:=Hd (Ba hin);obtain⟨b,o,hAA,_,hat⟩:=HLF.out.at (by omega);have hti:=(hat i hin).2.2.2;have hpi:=HF.out _ (List.getElem_mem hin);have HSP0:=Hd (Kz hin);have HIn:Hid (i+1<=fs.length):=Hd hin;subst hAA;generalize fs[i].2.2=t at hti hpi HSP0;obtain⟨cs,hcs,hrep⟩:=hti;obtain⟨k2,s2,n2,ps2,fs2,vs2⟩:=t;have KI:=Hd (hpi K w0 _ cs _ l1 hrep HST.out.low HST.out.own HST.out.asc (by
       have h1:=HLN.out;rw[HSP0.out,List.length_append] at h1;omega))
      have HSP:Hid (N++Cs (fs.drop i)=Bu k 0 ps++Cs fs):=HE;rw[HSP0.out] at HSP;obtain⟨Aq,cq,Ag,cg,Ah,ch,rfl,-⟩:=hrep.inv;have y0:=Aa HST.out.low (hcs 0 _ rfl);have y1:=Aa HST.out.low (hcs 1 _ rfl);have y2:=Aa HST.out.low (hcs 2 _ rfl);have y3:=Aa HST.out.low (hcs 3 _ rfl);have y4:=Aa HST.out.low (hcs 4 _ rfl);have y5:=Aa HST.out.low (hcs 5 _ rfl);rw[Nat.add_zero] at y0;simp only[Ar] at KI;clear hi hat hpi hcs hrep;go_wp2_with fail;refine (KI.out).mono ?_;rintro e w2 ⟨v2,l2,rfl,h2⟩;have HS2:=Hd (HST.out.step h2);have HF2:=Hd (HX.out _ _ HS2.out.fr);clear h2 KI y0 y1 y2 y3 y4 y5;go_wp2_with fail;refine⟨⟨i+1,_,l2,HIn.out,by first | rfl | rw[wr2],?p1,HS2.out⟩,?p3⟩
      case p1=>rw[<-HSP.out,List.append_assoc]
      case p3=>first | exact HM.out | (rw[wr2];exact HM.out)
     ·have t1:decide ((i:Int)<(fs.length:Int))=false:=(by simp;omega);have HE1:Hid (N=Bu k 0 ps++Cs fs):=Hd (by rw[<-HE.out,List.drop_eq_nil_of_le (by omega)];simp[Cs]);clear hi;go_wp2_with fail;go_ret
      refine⟨.slice A1 l1.length c1,l1,rfl,?_⟩;rw[HNN.out,<-HE1.out];exact InfSt.from HST.out HBW.out
theorem S1 (t:Ty):Xo t:=Ty.ind (C:=Xo) (fun k s n ps fs vs hp hf _=>Rb k s n ps fs vs hp hf) t
end Go.Proofs.YtlpfpehegddcfaaGreatDoor
