import Derived.Test.YtlpfpehegddcfaaGreatDoorMv17
import Derived.Lib.OwnBridge
import Derived.Sort.OwnSorted
namespace Go.Proofs.YtlpfpehegddcfaaGreatDoor
set_option maxRecDepth 100000
set_option maxHeartbeats 64000000
open Go.RowKit
def Nn (l:List Ty):List Ty:=if Ce 3 (Ep l) then G4 3 (Ep l) else if Ce 2 (Ep l) then G4 2 (Ep l) else Ep l
def Cm (n s:Bool) (t:Ty):Bool:=t.k == 9 && n || t.k == 10 && s
def Gj (l:List Ty):List Ty:=(Nn l).filter fun t=>!Cm (Ce 7 (Nn l)) (Ce 8 (Nn l)) t
theorem Gs {k:Int} {l:List Ty}:Ce k l=true↔∃ t∈l,t.k=k:=by
 unfold Ce;rw[List.any_eq_true];exact⟨fun ⟨t,h,e⟩=>⟨t,h,by simpa using e⟩,fun ⟨t,h,e⟩=>⟨t,h,by simpa using e⟩⟩
theorem Gb {l:List Ty} {t:Ty}:t∈Ep l↔t∈Bb l/\t.k≠1:=by
 unfold Ep;rw[List.mem_filter];simp
theorem If {l:List Ty} {k:Int} (hk:k≠1):Ce k (Ep l)=Ce k (Bb l):=by
 rw[Bool.eq_iff_iff,Gs,Gs];exact⟨fun ⟨t,h,e⟩=>⟨t,(Gb.1 h).1,e⟩,fun ⟨t,h,e⟩=>⟨t,Gb.2 ⟨h,by rw[e];exact hk⟩,e⟩⟩
theorem Ms {k:Int} {l:List Ty} {t:Ty}:t∈G4 k l↔t=E7 k\/(t∈l/\t.k≠k/\C6 t=true):=by
 unfold G4;rw[List.mem_cons,List.mem_filter];simp
def R8 (l:List Ty):Prop:=∀ t∈l,(t.k=3->t=E7 3)/\(t.k=2->t=E7 2)/\(t.k=7\/t.k=8\/t.k=9\/t.k=10->C6 t=false)
theorem Jbl (k:Int):(E7 k).k=k:=rfl
theorem Zt {l:List Ty} {t:Ty} (h:t∈l):Ce t.k l=true:=Gs.2 ⟨t,h,rfl⟩
theorem Wn {l:List Ty} (hP:R8 (Bb l)) (t:Ty):t∈Gj l↔t∈Cd l:=by
 unfold Gj Cd;rw[List.mem_filter,List.mem_filter];have n3:Ce 3 (Ep l)=Ce 3 (Bb l):=If (by decide);have n2:Ce 2 (Ep l)=Ce 2 (Bb l):=If (by decide);have hno:∀ k,(k=7\/k=8)->∀ q,(q=3\/q=2)->Ce k (G4 q (Ep l))=false:=by
  intro k hk q hq;rw[<-Bool.not_eq_true,Gs];rintro⟨x,hx,e⟩;rcases Ms.1 hx with rfl | ⟨h1,-,h3⟩
  ·rw[Jbl] at e;omega
  ·rw[(hP x (Gb.1 h1).1).2.2 (by omega)] at h3;exact absurd h3 (by simp)
 unfold Nn;rw[n3,n2]
 cases h3:Ce 3 (Bb l) with
 | true=>
  simp only[if_true];rw[hno 7 (.inl rfl) 3 (.inl rfl),hno 8 (.inr rfl) 3 (.inl rfl),Ms,Gb];obtain⟨x,hx,ex⟩:=Gs.1 h3;have hx3:=(hP x hx).1 ex;subst hx3;simp only[Cm,Bool.and_false,Bool.or_false,Bool.not_false,and_true];unfold Cx Bs;rw[h3]
  constructor
  ·rintro (rfl | ⟨⟨h1,h4⟩,h5,h6⟩)
   ·exact⟨hx,by rw[Jbl];rfl⟩
   ·refine⟨h1,?_⟩;rw[if_neg h4,if_neg h5];simp[h6]
  ·rintro⟨h1,h2⟩;by_cases e1:t.k=1
   ·rw[if_pos e1] at h2;exact absurd h2 (by simp)
   by_cases e3:t.k=3
   ·exact .inl ((hP t h1).1 e3)
   ·rw[if_neg e1,if_neg e3] at h2;simp at h2;exact .inr ⟨⟨h1,e1⟩,e3,h2⟩
 | false=>
  simp only[Bool.false_eq_true,if_false];have e3:t∈Bb l->t.k≠3:=fun h e=>by have:=Zt h;rw[e,h3] at this;exact absurd this (by simp)
  cases h2:Ce 2 (Bb l) with
  | true=>
   simp only[if_true];rw[hno 7 (.inl rfl) 2 (.inr rfl),hno 8 (.inr rfl) 2 (.inr rfl),Ms,Gb];obtain⟨x,hx,ex⟩:=Gs.1 h2;have hx2:=(hP x hx).2.1 ex;subst hx2;simp only[Cm,Bool.and_false,Bool.or_false,Bool.not_false,and_true];unfold Cx Bs;rw[h3,h2]
   constructor
   ·rintro (rfl | ⟨⟨h1,h4⟩,h5,h6⟩)
    ·exact⟨hx,by rw[Jbl];rfl⟩
    ·refine⟨h1,?_⟩;rw[if_neg h4,if_neg (e3 h1)];simp[h5,h6]
   ·rintro⟨h1,hk⟩;by_cases e1:t.k=1
    ·rw[if_pos e1] at hk;exact absurd hk (by simp)
    by_cases e2:t.k=2
    ·exact .inl ((hP t h1).2.1 e2)
    ·rw[if_neg e1,if_neg (e3 h1)] at hk;simp[e2] at hk;exact .inr ⟨⟨h1,e1⟩,e2,hk⟩
  | false=>
   simp only[Bool.false_eq_true,if_false];have e2:t∈Bb l->t.k≠2:=fun h e=>by have:=Zt h;rw[e,h2] at this;exact absurd this (by simp)
   rw[If (by decide),If (by decide),Gb];unfold Cx Bs Cm;rw[h3,h2]
   constructor
   ·rintro⟨⟨h1,h4⟩,h5⟩;refine⟨h1,?_⟩;rw[if_neg h4,if_neg (e3 h1),if_neg (by simp[e2 h1])];by_cases k9:t.k=9 <;> by_cases k10:t.k=10 <;> simp_all
   ·rintro⟨h1,hk⟩;by_cases e1:t.k=1
    ·rw[if_pos e1] at hk;exact absurd hk (by simp)
    rw[if_neg e1,if_neg (e3 h1),if_neg (by simp[e2 h1])] at hk;refine⟨⟨h1,e1⟩,?_⟩;by_cases k9:t.k=9 <;> by_cases k10:t.k=10 <;> simp_all
theorem Jbm {l:List Ty} (hP:R8 (Bb l)):Fq (C0 (Gj l))=Bi l:=by
 unfold Bi;rw[G3 (F3 (Cd l)) fun x=>by rw[Cj,Wn hP]]
theorem Gh {K:Nat->Prop} {w0 w:World} {l:List Ty} {A:Option Addr} {c:Nat} (hL:SrcT K w0 w A l) (k:Int) :
  Calls Tryz.prog 58 #[.slice A l.length c,.int .i64 k] w fun e w'=>e=.returned (.bool (Ce k l))/\w'=w:=by
 obtain⟨b,hAA,hll,hat0⟩:=hL;have HAA:=Hd hAA;have HAT:=Hd hat0;clear hAA hat0;go_enter Tryz.func58,Tryz.ntmps58;go_wp2_with fail
 go_loopw [5] (fun v wr=>∃ (i:Nat),i<=l.length/\v=.int .i64 i/\Ce k l=Ce k (l.drop i)/\wr=w) (fun v _=>l.length - (intOf v).toNat)
 case atStart=>exact⟨0,by omega,rfl,by rw[List.drop_zero],rfl⟩
 case round=>
  obtain⟨i,hi,rfl,he,rfl⟩:=hrel;have HE:=Hd he;clear he;by_cases hin:i<l.length
  ·have t1:decide ((i:Int)<(l.length:Int))=true:=by simp;omega
   have wr2:wrap64 ((i:Int)+1)=((i+1:Nat):Int):=Ao (by omega);have hA:=HAA.out (by omega);subst hA;obtain⟨q,hq,hcq⟩:∃ q,(l[i]'hin).k=q/\wr.cell? ⟨b,i*6,none⟩=some (.int .i64 q):=by
    obtain⟨cs,h1,h2⟩:=HAT.out i hin;generalize l[i]=t at h1;obtain⟨k,s,n,ps,fs,vs⟩:=t;obtain⟨_,_,_,_,_,_,rfl,-⟩:=h1.inv;exact⟨k,rfl,h2 0 _ rfl⟩
   have HS:Hid (Ce k (l.drop i)=((l[i]'hin).k == k || Ce k (l.drop (i+1)))):=Hd (by rw[List.drop_eq_getElem_cons hin];rfl);have HM:=Hd (Ba hin);have HIn:Hid (i+1<=l.length):=Hd hin;by_cases hk:q=k
   ·have HK:Hid (((l[i]'hin).k == k)=true):=Hd (by rw[hq];simpa using hk);have e13:(q == k)=true:=(by simpa using hk);clear hi hq hk;go_wp2_with fail;go_ret
    exact⟨by rw[HE.out,HS.out,HK.out];rfl,rfl⟩
   ·have HK:Hid (((l[i]'hin).k == k)=false):=Hd (by rw[hq];simpa using hk);have e13:(q == k)=false:=(by simpa using hk);clear hi hq hk;go_wp2_with fail;refine⟨⟨i+1,HIn.out,by first | rfl | rw[wr2],by rw[HE.out,HS.out,HK.out];rfl,by first | rfl | trivial⟩,?_⟩;first | exact HM.out | (rw[wr2];exact HM.out)
  ·have t1:decide ((i:Int)<(l.length:Int))=false:=by simp;omega
   have HE1:Hid (Ce k l=false):=Hd (by rw[HE.out,List.drop_eq_nil_of_le (by omega)];rfl);clear hi;go_wp2_with fail;go_ret
   exact⟨by rw[HE1.out];rfl,rfl⟩
theorem HoldMid.drew {w0 w wr:World} {m:Nat} {F:ByteArray->Option Rw} {G:List (ByteArray×Ty)} (h:HoldMid w0 w m F G wr):HoldMid w0 w m F G wr.drew:=by
 obtain⟨F',hG,hb,hf⟩:=h;exact⟨F',hG.later (Below.refl _ _).drew,hb.trans (ButG.of_below (O:=fun _=>False) (Below.refl _ _).drew) (fun _ h=>h.elim),hf⟩
open Go.RowKit Go.Sort
theorem Ou:H3 []=[]:=List.eq_nil_of_length_eq_zero (Nat.le_zero.1 (Ke []))
theorem Uw {B:Nat} {w:World} {v:Value} {l:List ByteArray} (h:w.ownsRow B 9 1 v l.length (l.map .string)):OutS B w v l:=h
def K9 (l:List ByteArray):List ByteArray:=((l.map (·.data.toList)).mergeSort fun x y=>decide (x<=y)).map fun x=>⟨x.toArray⟩
theorem W7 (l:List ByteArray):(K9 l).map Value.string=((l.map (·.data.toList)).mergeSort fun x y=>decide (x<=y)).map encStr:=by
 unfold K9;rw[List.map_map];rfl
theorem Kh (l:List ByteArray):(K9 l).length=l.length:=by unfold K9;simp
theorem W6 (l:List ByteArray):(K9 l).map (·.data.toList)=(l.map (·.data.toList)).mergeSort fun x y=>decide (x<=y):=by
 unfold K9;rw[List.map_map];exact List.map_id' _
theorem Jbe {B:Nat} {w:World} {g c:Nat} {l:List ByteArray} (hs:StrI w g c l) (hb:B<=g) (hn:l.length<=1000000000) :
  Calls Tryz.prog 133 #[.slice (some ⟨g,0,none⟩) l.length c] w fun e w'=>e=.returned (.tuple #[])/\StrI w' g c (K9 l)/\w.grownBy w' (some g):=by
 have ho:=hs.out hb;obtain⟨cur,h1,h2⟩:=hs.blk;have h3:w.ownsRow B 9 1 (.slice (some ⟨g,0,none⟩) l.length c) l.length ((l.map (·.data.toList)).map encStr):=by rw[Lib.map_encStr l];exact ho
 obtain⟨g',cap,hv,_,hlt,_,_,_,hH⟩:=Lib.holds_of_ownsRow h3 (by intro h;cases h);injection hv with hv1 _ hv2
 injection hv1 with hv1
 injection hv1 with hv1
 subst hv1;have main:=Any.slices_Sort_string Jfi g 0 c (l.map (·.data.toList)) w hH hlt (by rw[List.length_map];omega);rw[List.length_map] at main;refine main.mono ?_;rintro e w' ⟨rfl,n,os,rfl⟩;refine⟨rfl,?_,grownBy_sorted _⟩;have h4:=ownsRow_sorted (w:=w) (base:=B) (cap:=c) (n:=n) (os:=os) (ss:=l.map (·.data.toList)) (ts:=(l.map (·.data.toList)).mergeSort fun x y=>decide (x<=y)) (by simp) hb h1 (by rw[List.length_map];exact hs.le) hs.mx (by omega);rw[List.length_map,<-W7] at h4;have h5:=Uw (l:=K9 l) (by rw[Kh];exact h4);rcases h5.of with ⟨h6,_⟩ | ⟨g2,c2,h6,_,h7⟩
 ·cases h6
 ·injection h6 with h8 _ h9
  injection h8 with h8
  injection h8 with h8
  subst h8;subst h9;exact h7
theorem Np {B:Nat} {w:World} {g c:Nat} {l:List ByteArray} (hs:StrI w g c l) (hb:B<=g) (hn:l.length<=1000000000) :
  Calls Tryz.prog 134 #[.slice (some ⟨g,0,none⟩) l.length c] w fun e w'=>e=.returned (.slice (some ⟨g,0,none⟩) ((Lib.compact (l.map (·.data.toList))).map fun x=>(⟨x.toArray⟩:ByteArray)).length c)/\StrI w' g c ((Lib.compact (l.map (·.data.toList))).map fun x=>⟨x.toArray⟩)/\Below B w w':=by
 have ho:=hs.out hb;have h3:w.ownsRow B 9 1 (.slice (some ⟨g,0,none⟩) l.length c) l.length ((l.map (·.data.toList)).map encStr):=by rw[Lib.map_encStr l];exact ho
 obtain⟨g',cap,hv,_,hlt,_,_,_,hH⟩:=Lib.holds_of_ownsRow h3 (by intro h;cases h);injection hv with hv1 _ hv2
 injection hv1 with hv1
 injection hv1 with hv1
 subst hv1;have hle:(Lib.compact (l.map (·.data.toList))).length<=l.length:=by
  unfold Lib.compact Lib.compactUpTo;rw[List.length_map];refine Nat.le_trans (List.length_filter_le _ _) ?_;rw[List.length_range,List.length_map];omega
 have main:=Any.slices_Compact_string X8 g 0 c (l.map (·.data.toList)) w hH (by rw[List.length_map];omega) (by rw[List.length_map];exact hs.le);rw[List.length_map] at main;refine main.mono ?_;rintro e w' ⟨rfl,q,rfl⟩;refine⟨by rw[List.length_map],?_,Lib.below_putRow (Below.refl _ _) hb⟩;have h4:=Lib.ownsRow_putRow (q:=q) (k:=(Lib.compact (l.map (·.data.toList))).length) (ys:=Lib.compact (l.map (·.data.toList))++List.replicate (l.length - (Lib.compact (l.map (·.data.toList))).length) []) h3 (by rw[List.length_append,List.length_replicate];omega) hle;rw[List.take_left'] at h4;rotate_left
 ·rfl
 have h5:=Uw (l:=(Lib.compact (l.map (·.data.toList))).map fun x=>(⟨x.toArray⟩:ByteArray)) (by rw[List.length_map,List.map_map];exact h4);rcases h5.of with ⟨h6,_⟩ | ⟨g2,c2,h6,_,h7⟩
 ·cases h6
 ·injection h6 with h8 _ h9
  injection h8 with h8
  injection h8 with h8
  subst h8;subst h9;exact h7
def FillA (P:Nat->Prop) (b:Nat) (T:TypeId) (w:World) (F:ByteArray->Option Ty) (p:Ty) (n0:Nat):Ending->World->Prop:=fun e w'=>∃ (rs:List Value) (u:Ty) (n1:Nat),e=.returned (.agg rs.toArray)/\RepT P w' u rs/\w'.heap[b]?=some (.cells #[.int .i64 n1] T (0,0))/\(n0+N5 F p<=4096->n1=n0+N5 F p/\u=Ud F p)/\(4096<n0+N5 F p->4096<n1)/\n1<=8192+Ai p/\Ai u<=Ai p*4097/\ButG (fun x=>x=b) w w'
theorem ListD.later {K:Nat->Prop} {w w':World} {l:List (ByteArray×Ty)} {A:Option Addr} {c:Nat} (h:ListD K w l A c) (hb:Below w.heap.size w w'):ListD K w' l A c:=by
 obtain⟨b,o,h1,h2⟩:=h;refine⟨b,o,h1,fun i hi=>?_⟩;obtain⟨h3,h4,cs,h5,h6⟩:=h2 i hi;exact⟨Aa hb h3,h4,cs,fun j u hj=>Aa hb (h5 j u hj),h6.later hb⟩
theorem ListD.short {K:Nat->Prop} {w:World} {l:List (ByteArray×Ty)} {A:Option Addr} {c:Nat} (h:ListD K w l A c):l.length<=1000000000000000:=by
 obtain⟨b,o,h1,-⟩:=h;exact h1.big
theorem ListD.at {K:Nat->Prop} {w:World} {l:List (ByteArray×Ty)} {A:Option Addr} {c:Nat} (h:ListD K w l A c) (h0:0<l.length):∃ b o,A=some ⟨b,o,none⟩/\K b/\∀ i (h:i<l.length),w.cell? ⟨b,o+i*7,none⟩=some (.string l[i].1)/\l[i].1.size<=1000000000000000/\AtT K w l[i].2 b (o+i*7+1):=by
 obtain⟨b,o,h1,h2⟩:=h;obtain⟨h3,h4⟩:=h1.some h0;exact⟨b,o,h3,h4,h2⟩
end Go.Proofs.YtlpfpehegddcfaaGreatDoor
