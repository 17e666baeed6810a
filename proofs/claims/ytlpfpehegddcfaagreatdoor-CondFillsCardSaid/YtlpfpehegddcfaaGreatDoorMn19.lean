import Derived.Test.YtlpfpehegddcfaaGreatDoorMn16
import Derived.Test.YtlpfpehegddcfaaGreatDoorMn17
namespace Go.Proofs.YtlpfpehegddcfaaGreatDoor
set_option maxRecDepth 100000
set_option maxHeartbeats 64000000
open Go.RowKit
theorem eqT (x s:ByteArray):(x.toList == s.toList)=decide (x=s):=by
 rw[Bool.eq_iff_iff,beq_iff_eq,decide_eq_true_iff,ByteArray.toList_eq,ByteArray.toList_eq]
 exact⟨fun h=>bytes_ext h,fun h=>by rw[h]⟩
structure ListS (w:World) (l:List ByteArray) (A:Option Addr):Prop where
 ex:∃ b o,(0<l.length→A=some ⟨b,o,none⟩)∧l.length≤1000000000000000∧∀ i (h:i<l.length),w.cell? ⟨b,o+i,none⟩=some (.string l[i])
def inB (l:List ByteArray) (s:ByteArray):Bool:=l.any fun x=>decide (x=s)
theorem inB_drop {l:List ByteArray} {i:Nat} (h:i<l.length) (s:ByteArray):inB (l.drop i) s=(decide (l[i]=s) || inB (l.drop (i+1)) s):=by rw[List.drop_eq_getElem_cons h];rfl
theorem in_ref {w:World} {l:List ByteArray} {A:Option Addr} {c:Nat} (hL:ListS w l A) (s:ByteArray) :
  Calls Tryz.prog 17 #[.slice A l.length c,.string s] w fun e w'=>e=.returned (.bool (inB l s))∧w'=w:=by
 obtain⟨b,o,hA,hll,hat⟩:=hL
 have HAT:=Hd hat
 have HAA:=Hd hA
 clear hat hA
 go_enter Tryz.func17,Tryz.ntmps17
 go_wp2_with fail
 go_loopw [5] (fun v wr=>∃ (i:Nat),i≤l.length∧v=.int .i64 i∧inB l s=inB (l.drop i) s∧wr=w) (fun v _=>l.length - (intOf v).toNat)
 case atStart=>exact⟨0,by omega,rfl,by rw[List.drop_zero],rfl⟩
 case round=>
  obtain⟨i,hi,rfl,he,rfl⟩:=hrel
  have HE:=Hd he
  clear he
  by_cases hin:i<l.length
  ·have t1:decide ((i:Int)<(l.length:Int))=true:=by simp;omega
   have wr2:wrap64 ((i:Int)+1)=((i+1:Nat):Int):=wrap_one (by omega)
   have hA2:=HAA.out (by omega)
   subst hA2
   have hc:=HAT.out i hin
   have hd:=inB_drop hin s
   generalize l[i]=x at hc hd
   have HS:=Hd hd
   have HM:=Hd (measI hin)
   have HIn:Hid (i+1≤l.length):=Hd hin
   by_cases hk:x=s
   ·have HK:Hid (decide (x=s)=true):=Hd (decide_eq_true hk)
    have e13:(x.toList == s.toList)=true:=by rw[eqT];exact decide_eq_true hk
    clear hi hd hk
    go_wp2_with fail
    go_ret
    exact⟨by rw[HE.out,HS.out,HK.out];rfl,rfl⟩
   ·have HK:Hid (decide (x=s)=false):=Hd (decide_eq_false hk)
    have e13:(x.toList == s.toList)=false:=by rw[eqT];exact decide_eq_false hk
    clear hi hd hk
    go_wp2_with fail
    refine⟨⟨i+1,HIn.out,by first | rfl | rw[wr2],by rw[HE.out,HS.out,HK.out];rfl,by first | rfl | trivial⟩,?_⟩
    first | exact HM.out | (rw[wr2];exact HM.out)
  ·have t1:decide ((i:Int)<(l.length:Int))=false:=by simp;omega
   have HE1:Hid (inB l s=false):=Hd (by rw[HE.out,List.drop_eq_nil_of_le (by omega)];rfl)
   clear hi
   go_wp2_with fail
   go_ret
   exact⟨by rw[HE1.out];rfl,rfl⟩
structure StrI (w:World) (g c:Nat) (l:List ByteArray):Prop where
 le:l.length≤c
 mx:c≤maxLen
 blk:∃ cur,w.heap[g]?=some (.cells cur 9 (0,0))∧cur.size=c
 reps:∀ (i:Nat) (s:ByteArray),l[i]?=some s→w.cell? ⟨g,i,none⟩=some (.string s)
theorem StrI.lt {w:World} {g c:Nat} {l:List ByteArray} (h:StrI w g c l):g<w.heap.size:=by
 obtain⟨cur,h1,_⟩:=h.blk
 exact (Array.getElem?_eq_some_iff.1 h1).1
theorem StrI.keep {w w':World} {g c:Nat} {l:List ByteArray} (h:StrI w g c l) (hk:w'.heap[g]?=w.heap[g]?):StrI w' g c l:=
 ⟨h.le,h.mx,by rw[hk];exact h.blk,fun i t hi=>(World.cell?_of_block (a:=⟨g,i,none⟩) hk).trans (h.reps i t hi)⟩
theorem StrI.later {w w':World} {g c:Nat} {l:List ByteArray} (h:StrI w g c l) (hb:Below w.heap.size w w'):StrI w' g c l:=h.keep (hb.block g h.lt)
theorem StrI.set {w:World} {g c:Nat} {a b:List ByteArray} {x s:ByteArray} (h:StrI w g c (a++x :: b)):StrI (w.setCell ⟨g,a.length,none⟩ (.string s)) g c (a++s :: b):=by
 obtain⟨cur,h1,h2⟩:=h.blk
 refine⟨by have:=h.le;simpa using this,h.mx,⟨_,Go.heap_setCell_same w g _ _ _ _ h1,by rw[Array.size_setIfInBounds];exact h2⟩,fun i t hi=>?_⟩
 by_cases he:i=a.length
 ·subst he
  rw[List.getElem?_append_right (Nat.le_refl _),Nat.sub_self] at hi
  have ht:s=t:=by injection hi
  rw[←ht]
  exact World.cell?_setCell_same _ _ _ (h.reps a.length x (by rw[List.getElem?_append_right (Nat.le_refl _),Nat.sub_self];rfl))
 ·have hi2:(a++x :: b)[i]?=some t:=by
   rcases Nat.lt_or_ge i a.length with h3 | h3
   ·rw[List.getElem?_append_left h3] at hi ⊢;exact hi
   ·obtain⟨m,hm⟩:∃ m,i - a.length=m+1:=⟨i - a.length - 1,by omega⟩
    rw[List.getElem?_append_right h3,hm] at hi ⊢
    exact hi
  rw[World.cell?_setCell_other _ _ _ _ (fun e=>he (by injection e with _ e2;exact e2.symm))]
  exact h.reps i t hi2
def OutS (B:Nat) (w:World) (v:Value) (l:List ByteArray):Prop:=w.ownsRow B 9 1 v l.length (l.map .string)
theorem OutS.of {B:Nat} {w:World} {v:Value} {l:List ByteArray} (h:OutS B w v l):(v=.slice none 0 0∧l=[])∨∃ g c,v=.slice (some ⟨g,0,none⟩) l.length c∧B≤g∧StrI w g c l:=by
 obtain⟨h1,h2⟩:=h
 rcases h2 with ⟨hv,hn⟩ | ⟨g,cap,cur,hv,hg,hh,hc,hm,hs,ht⟩
 ·exact .inl ⟨hv,List.eq_nil_of_length_eq_zero hn⟩
 ·refine .inr ⟨g,cap,hv,hg,hc,hm,⟨cur,hh,by omega⟩,fun i s hi=>?_⟩
  rw[cell_of_row _ _ _ _ _ _ hh]
  have h6:(l.map Value.string)[i]?=some (.string s):=by rw[List.getElem?_map,hi];rfl
  rw[←ht,List.getElem?_take] at h6
  split at h6
  ·simpa using h6
  ·cases h6
theorem StrI.out {B:Nat} {w:World} {g c:Nat} {l:List ByteArray} (h:StrI w g c l) (hg:B≤g):OutS B w (.slice (some ⟨g,0,none⟩) l.length c) l:=by
 obtain⟨cur,h1,h2⟩:=h.blk
 have hle:=h.le
 refine⟨by simp,.inr ⟨g,c,cur,rfl,hg,h1,hle,h.mx,by omega,?_⟩⟩
 apply List.ext_getElem?
 intro i
 rw[List.getElem?_take,List.getElem?_map,Nat.mul_one]
 split
 ·rename_i hi
  have h5:=h.reps i l[i] (List.getElem?_eq_getElem hi)
  rw[cell_of_row _ _ _ _ _ _ h1] at h5
  rw[List.getElem?_eq_getElem hi]
  simpa using h5
 ·rename_i hi
  rw[List.getElem?_eq_none (by omega)];rfl
theorem StrI.list {w:World} {g c:Nat} {l:List ByteArray} (h:StrI w g c l) (hl:l.length≤1000000000000000):ListS w l (some ⟨g,0,none⟩):=⟨g,0,fun _=>rfl,hl,fun i hi=>by rw[Nat.zero_add];exact h.reps i _ (List.getElem?_eq_getElem hi)⟩
theorem OutS.later {B:Nat} {w w':World} {v:Value} {l:List ByteArray} (h:OutS B w v l) (hb:Below w.heap.size w w'):OutS B w' v l:=by
 rcases h.of with ⟨rfl,rfl⟩ | ⟨g,c,rfl,hg,hs⟩
 ·exact World.ownsRow_nil _ _ _ _
 ·exact (hs.later hb).out hg
def AscS (l:List ByteArray):Prop:=l.Pairwise fun a b=>cmpB a b = -1
theorem cmpB_trans {a b c:ByteArray} (h1:cmpB a b = -1) (h2:cmpB b c = -1):cmpB a c = -1:=cmpB_lt.2 (List.lt_trans (cmpB_lt.1 h1) (cmpB_lt.1 h2))
theorem putS {F:List ByteArray} {t:ByteArray} {k:Nat} (hA:AscS F) (hk:k≤F.length) (hgt:∀ j (h:j<F.length),k≤j→cmpB F[j] t=1) (hlt:∀ j (h:j<F.length),j+1=k→cmpB F[j] t = -1):AscS (F.take k++t :: F.drop k):=by
 have hlt2:∀ i (hi:i<F.length),i<k→cmpB F[i] t = -1:=fun i hi hik=>by
  rcases Nat.lt_or_ge (i+1) k with h | h
  ·have h1:=hlt (k - 1) (by omega) (by omega)
   have h2:=List.pairwise_iff_getElem.1 hA i (k - 1) hi (by omega) (by omega)
   exact cmpB_trans h2 h1
  ·exact hlt i hi (by omega)
 have hA2:=hA
 unfold AscS at hA2
 rw[←List.take_append_drop k F,List.pairwise_append] at hA2
 obtain⟨h1,h2,h3⟩:=hA2
 refine List.pairwise_append.2 ⟨h1,List.pairwise_cons.2 ⟨fun b hb=>?_,h2⟩,fun a ha b hb=>?_⟩
 ·obtain⟨j,hj,rfl⟩:=List.getElem_of_mem hb
  rw[List.getElem_drop]
  have:=hgt (k+j) (by simp at hj;omega) (by omega)
  rw[cmpB_flip,this]
 ·rcases List.mem_cons.1 hb with rfl | hb
  ·obtain⟨j,hj,rfl⟩:=List.getElem_of_mem ha
   rw[List.getElem_take]
   exact hlt2 _ (by simp at hj;omega) (by simp at hj;omega)
  ·exact h3 a ha b hb
theorem memS {F:List ByteArray} {t:ByteArray} {k:Nat} (x:ByteArray):x∈F.take k++t :: F.drop k↔x=t∨x∈F:=by
 rw[List.mem_append,List.mem_cons]
 constructor
 ·rintro (h | h | h)
  ·exact .inr (List.mem_of_mem_take h)
  ·exact .inl h
  ·exact .inr (List.mem_of_mem_drop h)
 ·rintro (h | h)
  ·exact .inr (.inl h)
  ·rw[←List.take_append_drop k F] at h
   rcases List.mem_append.1 h with h | h
   ·exact .inl h
   ·exact .inr (.inr h)
theorem infoStr:(Tryz.prog.info? 9).map (fun i=>(i.zero,i.size,i.bytes))=some (some (.string ⟨#[]⟩),1,16):=by kernel_rfl
theorem OutS.list {B:Nat} {w:World} {v:Value} {l:List ByteArray} (h:OutS B w v l) (hl:l.length≤1000000000000000):∃ A c,v=.slice A l.length c∧ListS w l A:=by
 rcases h.of with ⟨rfl,rfl⟩ | ⟨g,c,rfl,hg,hs⟩
 ·exact⟨none,0,rfl,⟨0,0,fun h=>absurd h (by simp),by simp,fun i h=>absurd h (by simp)⟩⟩
 ·exact⟨_,_,rfl,hs.list hl⟩
structure Fr (v:Value) (w:World) (v':Value) (w':World):Prop where
 keep:∀ b,b<w.heap.size→v.ownBlock≠some b→w'.heap[b]?=w.heap[b]?
 own:v'.ownBlock=v.ownBlock∨∃ b,v'.ownBlock=some b∧w.heap.size≤b
theorem Fr.refl (v:Value) (w:World):Fr v w v w:=⟨fun _ _ _=>rfl,.inl rfl⟩
theorem Fr.trans {v v1 v2:Value} {w w1 w2:World} (h:Fr v w v1 w1) (h':Fr v1 w1 v2 w2) (hs:w.heap.size≤w1.heap.size):Fr v w v2 w2:=by
 refine⟨fun b hb hn=>?_,?_⟩
 ·refine (h'.keep b (by omega) ?_).trans (h.keep b hb hn)
  rcases h.own with e | ⟨c,e,hc⟩
  ·rw[e];exact hn
  ·rw[e];intro e2;injection e2 with e2;omega
 ·rcases h'.own with e | ⟨c,e,hc⟩
  ·rw[e];exact h.own
  ·exact .inr ⟨c,e,by omega⟩
theorem Fr.world {v v':Value} {w w0 w':World} (h:Fr v w v' w') (hb:Below w0.heap.size w0 w):Fr v w0 v' w':=
 ⟨fun b hb2 hn=>(h.keep b (Nat.lt_of_lt_of_le hb2 hb.size) hn).trans (hb.block b hb2),h.own.imp id fun ⟨b,e,hc⟩=>⟨b,e,Nat.le_trans hb.size hc⟩⟩
def AddPost (v:Value) (B:Nat) (w:World) (l:List ByteArray) (s:ByteArray):Ending→World→Prop:=fun e w'=>∃ v' l',e=.returned v'∧OutS B w' v' l'∧AscS l'∧(∀ x,x∈l'↔x=s∨x∈l)∧l'.length≤l.length+1∧Below B w w'∧Fr v w v' w'
theorem inB_mem {l:List ByteArray} {s:ByteArray}:inB l s=true↔s∈l:=by
 unfold inB
 rw[List.any_eq_true]
 constructor
 ·rintro⟨x,hx,h⟩
  have:=of_decide_eq_true h
  rw[←this];exact hx
 ·exact fun h=>⟨s,h,decide_eq_true rfl⟩
theorem add_ref {B:Nat} {w:World} {v:Value} {l:List ByteArray} {s:ByteArray} (hO:OutS B w v l) (hA:AscS l) (hB:B≤w.heap.size) (hbd:l.length+1≤1099511627776) :
  Calls Tryz.prog 77 #[v,.string s] w (AddPost v B w l s):=by
 obtain⟨A,c,rfl,hL⟩:=hO.list (by omega)
 have KI:=Hd (in_ref (c:=c) hL s)
 have HO:=Hd hO
 have HBD:=Hd hbd
 have HA:=Hd hA
 have HB:=Hd hB
 have hll:l.length≤1099511627776:=by omega
 obtain⟨i0,hi0,hz0,hz1,hz2⟩:=partsT infoStr
 unfold AddPost
 clear hL hO hA hB hbd
 cases hin:inB l s with
 | true=>
  have HM:=Hd (inB_mem.1 hin)
  rw[hin] at KI
  go_enter Tryz.func77,Tryz.ntmps77
  go_wp2_with fail
  refine KI.out.mono ?_
  rintro e w2 ⟨rfl,rfl⟩
  go_wp2_with fail
  go_ret
  exact⟨_,l,rfl,HO.out,HA.out,fun x=>⟨.inr,fun h=>h.elim (fun e=>e ▸ HM.out) id⟩,by omega,Below.refl _ _,Fr.refl _ _⟩
 | false=>
  have HN:Hid (¬ s∈l):=Hd (fun h=>by rw[inB_mem.2 h] at hin;cases hin)
  rw[hin] at KI
  clear hin
  have HOWA:Hid ((w.alloc (.cells #[.string s] 9)).ownsRow B 9 1 (.slice A l.length c) l.length (l.map .string)):=Hd (HO.out.later ((Below.refl _ _).alloc (Nat.le_refl _) _))
  have HC2:=Hd (cellsT_new w [.string s] 9)
  have HLA:Hid ((l++[s]).length=l.length+1):=Hd (by simp)
  go_enter Tryz.func77,Tryz.ntmps77
  go_wp2_with fail
  refine KI.out.mono ?_
  rintro e w2 ⟨rfl,rfl⟩
  go_wp2_with (at_builtin;refine wpList_plain rfl fun K hK=>?_;go_loud (refine wp_append_own_at _ _ 46 rfl B 9 i0 (.string ⟨#[]⟩) 1 16 Tryz.underlying46 hi0 hz0 hz1 hz2 rfl (by decide) _ _ _ rfl HOWA.out ⟨w2.heap.size,0,none⟩ 1 1 [.string s] rfl rfl ?a0 ?a1 ?a2 ?a3 ?a4 ?_))
  case a0=>exact HC2.out
  case a1=>
   intro u hu
   simp only[List.mem_cons,List.not_mem_nil,or_false] at hu
   rw[hu];rfl
  case a2=>have:=HBD.out;unfold maxLen;omega
  case a3=>have:=HBD.out;omega
  case a4=>have:=HB.out;simp only[World.size_alloc];omega
  intro v5 w5 hown5 hg5 _ hwhere
  refine hK _ _ ?_
  clear hK K
  have ho5:OutS B w5 v5 (l++[s]):=by
   unfold OutS
   rw[HLA.out,List.map_append]
   exact hown5
  have hb5:Below B w2 w5:=((Below.refl B w2).alloc HB.out _).grown hg5 (by have:=HB.out;simp only[World.size_alloc];omega) fun k hk=>(HOWA.out.lt k hk).1
  rcases ho5.of with ⟨-,hnil⟩ | ⟨g5,c5,rfl,hgg5,hin5⟩
  ·exact absurd hnil (by simp)
  have HIN5:=Hd hin5
  have HGG:=Hd hgg5
  have HB5:=Hd hb5
  have hg5n:∀ b,b<w2.heap.size→(Value.slice A l.length c).ownBlock≠some b→b≠g5:=fun b hb hn e=>by
   rcases hwhere with h | h
   ·exact hn (by rw[←h,e];rfl)
   ·have h2:g5=w2.heap.size+1:=by first | exact Option.some.inj h | (have h3:=Option.some.inj h;simpa using h3)
    omega
  have HGN:=Hd hg5n
  have HOWN:Hid ((Value.slice (some ⟨g5,0,none⟩) (l.length+1) c5).ownBlock=(Value.slice A l.length c).ownBlock∨∃ b,(Value.slice (some ⟨g5,0,none⟩) (l.length+1) c5).ownBlock=some b∧w2.heap.size≤b):=Hd (by
   rcases hwhere with h | h
   ·exact .inl h
   ·have h2:g5=w2.heap.size+1:=by first | exact Option.some.inj h | (have h3:=Option.some.inj h;simpa using h3)
    exact .inr ⟨g5,rfl,by omega⟩)
  have HKP:Hid (∀ b,b<w2.heap.size→(Value.slice A l.length c).ownBlock≠some b→w5.heap[b]?=w2.heap[b]?):=Hd fun b hb hn=>(hg5.block b (by simp only[World.size_alloc];omega) hn.symm).trans (Below.heap_alloc _ _ _ hb)
  rw[HLA.out]
  have wr9:wrap64 (((l.length+1:Nat):Int) - 1)=((l.length:Nat):Int):=by rw[wrap_in (by omega) (by omega)];omega
  clear hown5 hg5 ho5 hb5 hin5 hgg5 hwhere hg5n
  go_wp2_with fail
  go_loopw [5] (fun v wr=>∃ (k:Nat) (x:ByteArray),k≤l.length∧v=.int .i64 k∧StrI wr g5 c5 (l.take k++x :: l.drop k)∧(∀ j (h:j<l.length),k≤j→cmpB l[j] s=1)∧Below B w2 wr∧(∀ b,b<w2.heap.size→(Value.slice A l.length c).ownBlock≠some b→wr.heap[b]?=w2.heap[b]?)) (fun v _=>(intOf v).toNat)
  case atStart=>exact⟨l.length,s,Nat.le_refl _,by first | rfl | rw[wr9],by rw[List.take_length,List.drop_length];exact HIN5.out,fun j h hj=>absurd h (by omega),HB5.out,HKP.out⟩
  case round=>
   obtain⟨k,x,hkl,rfl,hrow,hgt,hbr,hkp⟩:=hrel
   have HKR:Hid (∀ j y,∀ b,b<w2.heap.size→(Value.slice A l.length c).ownBlock≠some b→(wr.setCell ⟨g5,j,none⟩ y).heap[b]?=w2.heap[b]?):=Hd fun j y b hb hn=>(Below.heap_setCell _ _ _ _ (HGN.out b hb hn)).trans (hkp b hb hn)
   clear hkp
   have HGT:=Hd hgt
   have HBR:=Hd hbr
   have hltk:(l.take k).length=k:=by simp;omega
   have hset:=hrow.set (s:=s)
   rw[hltk] at hset
   have hcx:=hrow.reps k x (by rw[List.getElem?_append_right (by omega),hltk,Nat.sub_self];rfl)
   obtain⟨cur,hcur,-⟩:=hrow.blk
   have hfr:∀ o,wr.frozen? ⟨g5,o,none⟩=false:=fun o=>Lib.frozen_of_heap hcur o
   have HFIN:Hid ((∀ j (h:j<l.length),j+1=k→cmpB l[j] s = -1)→∃ v' l',Ending.returned (.slice (some ⟨g5,0,none⟩) (l.length+1) c5)=.returned v'∧OutS B (wr.setCell ⟨g5,k,none⟩ (.string s)) v' l'∧AscS l'∧(∀ x,x∈l'↔x=s∨x∈l)∧l'.length≤l.length+1∧Below B w2 (wr.setCell ⟨g5,k,none⟩ (.string s))∧Fr (.slice A l.length c) w2 v' (wr.setCell ⟨g5,k,none⟩ (.string s))):=Hd fun hlt=>by
    have hl:(l.take k++s :: l.drop k).length=l.length+1:=by simp;omega
    have h1:=hset.out HGG.out
    rw[hl] at h1
    exact⟨_,_,rfl,h1,putS HA.out hkl HGT.out hlt,memS,by omega,hbr.setCell HGG.out _,HKR.out _ _,HOWN.out⟩
   have i2:(k:Int)<(l.length:Int)+1:=by omega
   have i3:(0:Int)≤(k:Int):=by omega
   by_cases hk0:k=0
   ·subst hk0
    have HF2:=Hd (HFIN.out fun j _ hj=>absurd hj (by omega))
    clear hkl hrow hgt hbr hltk hset hcur HFIN
    go_wp2_with fail
    go_ret
    exact HF2.out
   ·obtain⟨j,rfl⟩:∃ j,k=j+1:=⟨k - 1,by omega⟩
    have hjl:j<l.length:=by omega
    have hcj:=hrow.reps j l[j] (by rw[List.getElem?_append_left (by omega),List.getElem?_take,if_pos (by omega)];exact List.getElem?_eq_getElem hjl)
    have hset2:=hrow.set (s:=l[j])
    rw[hltk] at hset2
    have HSET:Hid (StrI (wr.setCell ⟨g5,j+1,none⟩ (.string l[j])) g5 c5 (l.take j++l[j] :: l.drop j)):=Hd (by
     have e1:l.take (j+1)=l.take j++[l[j]]:=List.take_succ_eq_append_getElem hjl
     rw[e1,List.append_assoc] at hset2
     rw[List.drop_eq_getElem_cons hjl]
     exact hset2)
    have HNE:Hid (l[j]≠s):=Hd fun e=>HN.out (e ▸ List.getElem_mem hjl)
    have HGJ:Hid (cmpB l[j] s=1→∀ a (h:a<l.length),j≤a→cmpB l[a] s=1):=Hd fun e a h ha=>by
     rcases Nat.lt_or_ge j a with h1 | h1
     ·exact HGT.out a h (by omega)
     ·have:a=j:=by omega
      subst this
      exact e
    have HLJ:Hid (cmpB l[j] s = -1→∀ a (h:a<l.length),a+1=j+1→cmpB l[a] s = -1):=Hd fun e a h ha=>by
     have:a=j:=by omega
     subst this
     exact e
    have HBS:=Hd (fun y=>hbr.setCell (p:=⟨g5,j+1,none⟩) HGG.out y)
    have HJL:Hid (j≤l.length):=Hd (by omega)
    have hcs:=cmpB_cases l[j] s
    generalize l[j]=y at hcj HSET HNE HGJ HLJ hcs
    have wr1:wrap64 (((j+1:Nat):Int) - 1)=((j:Nat):Int):=by rw[wrap_in (by omega) (by omega)];omega
    have wr3:wrap64 (j:Int)=(j:Int):=wrap_in (by omega) (by omega)
    have i4:(0:Int)≤(j:Int):=by omega
    have i5:(j:Int)<(l.length:Int)+1:=by omega
    have i6:(j:Int)+1<(l.length:Int)+1:=by omega
    clear hkl hrow hgt hbr hltk hset hset2 hcur hk0 hjl
    rcases hcs with ⟨ga,gb,ge⟩ | ⟨ga,gb,ge⟩ | ⟨ga,gb,ge⟩
    ·have HF2:=Hd (HFIN.out (HLJ.out ge))
     clear HFIN ge
     go_wp2_with fail
     go_ret
     exact HF2.out
    ·have HG2:=Hd (HGJ.out ge)
     clear HFIN ge
     go_wp2_with fail
     refine⟨⟨j,y,HJL.out,by first | rfl | (rw[wr1]) | (rw[wr3]),HSET.out,HG2.out,HBS.out _,HKR.out _ _⟩,?_⟩
     first | (simp only[intOf];omega) | (rw[wr1];simp only[intOf];omega) | (rw[wr3];simp only[intOf];omega)
    ·exact absurd (cmpB_zero ge) HNE.out
theorem self_9 (t:ByteArray) (n:Int) (ps:List Ty) (fs:FsT) (vs:VsT):SelfIs (.mk 9 t n ps fs vs) (decide (0≤n)):=by
 intro K w b o h
 obtain⟨A,c,A2,c2,A3,c3,⟨x0,x1,x2,x3,x4,x5⟩,ht,hP,hF,hV⟩:=h.six
 clear h ht hP hF hV
 go_enter Tryz.func96,Tryz.ntmps96
 go_wp2_with fail
 go_ret
 exact⟨rfl,Below.refl _ _⟩
theorem self_16 (t:ByteArray) (n:Int) (ps:List Ty) (fs:FsT) (vs:VsT):SelfIs (.mk 16 t n ps fs vs) (nameT t):=by
 intro K w b o h
 obtain⟨A,c,A2,c2,A3,c3,⟨x0,x1,x2,x3,x4,x5⟩,ht,hP,hF,hV⟩:=h.six
 have KC:=Hd (name_prog t w ht)
 generalize nameT t=r at KC ⊢
 clear h ht hP hF hV
 go_enter Tryz.func96,Tryz.ntmps96
 go_wp2_with fail
 refine KC.out.mono ?_
 rintro e w2 ⟨rfl,hb2⟩
 have HB2:=Hd hb2
 clear hb2
 go_wp2_with fail
 go_ret
 exact⟨rfl,HB2.out⟩
theorem self_22 (t:ByteArray) (n:Int) (ps:List Ty) (fs:FsT) (vs:VsT):SelfIs (.mk 22 t n ps fs vs) (nameT t):=by
 intro K w b o h
 obtain⟨A,c,A2,c2,A3,c3,⟨x0,x1,x2,x3,x4,x5⟩,ht,hP,hF,hV⟩:=h.six
 have KC:=Hd (name_prog t w ht)
 generalize nameT t=r at KC ⊢
 clear h ht hP hF hV
 go_enter Tryz.func96,Tryz.ntmps96
 go_wp2_with fail
 refine KC.out.mono ?_
 rintro e w2 ⟨rfl,hb2⟩
 have HB2:=Hd hb2
 clear hb2
 go_wp2_with fail
 go_ret
 exact⟨rfl,HB2.out⟩
theorem self_17 (t:ByteArray) (n:Int) (ps:List Ty) (fs:FsT) (vs:VsT):SelfIs (.mk 17 t n ps fs vs) (nameT t):=by
 intro K w b o h
 obtain⟨A,c,A2,c2,A3,c3,⟨x0,x1,x2,x3,x4,x5⟩,ht,hP,hF,hV⟩:=h.six
 have KC:=Hd (name_prog t w ht)
 generalize nameT t=r at KC ⊢
 clear h ht hP hF hV
 go_enter Tryz.func96,Tryz.ntmps96
 go_wp2_with fail
 refine KC.out.mono ?_
 rintro e w2 ⟨rfl,hb2⟩
 have HB2:=Hd hb2
 clear hb2
 go_wp2_with fail
 go_ret
 exact⟨rfl,HB2.out⟩
theorem self_13 (t:ByteArray) (n:Int) (ps:List Ty) (fs:FsT) (vs:VsT) (fv:Ty→Bool) (hf:∀ v∈vs,∀ b∈v.2,FormIs b (fv b)):SelfIs (.mk 13 t n ps fs vs) (varsB (varsT vs fv)):=by
 intro K w b o h
 obtain⟨A,c,A2,c2,A3,c3,⟨x0,x1,x2,x3,x4,x5⟩,ht,hP,hF,hV⟩:=h.six
 have KC:=Hd (formedVars_any hV hf)
 generalize varsB (varsT vs fv)=r at KC ⊢
 clear h ht hP hF hV hf
 go_enter Tryz.func96,Tryz.ntmps96
 go_wp2_with fail
 refine KC.out.mono ?_
 rintro e w2 ⟨rfl,hb2⟩
 have HB2:=Hd hb2
 clear hb2
 go_wp2_with fail
 go_ret
 exact⟨rfl,HB2.out⟩
theorem self_14 (t:ByteArray) (n:Int) (ps:List Ty) (fs:FsT) (vs:VsT) (fv:Ty→Bool) (hf:∀ f∈fs,FormIs f.2.2 (fv f.2.2)):SelfIs (.mk 14 t n ps fs vs) (fieldsB (fieldsT fs fv)):=by
 intro K w b o h
 obtain⟨A,c,A2,c2,A3,c3,⟨x0,x1,x2,x3,x4,x5⟩,ht,hP,hF,hV⟩:=h.six
 have KC:=Hd (formedFields_any hF hf)
 generalize fieldsB (fieldsT fs fv)=r at KC ⊢
 clear h ht hP hF hV hf
 go_enter Tryz.func96,Tryz.ntmps96
 go_wp2_with fail
 refine KC.out.mono ?_
 rintro e w2 ⟨rfl,hb2⟩
 have HB2:=Hd hb2
 clear hb2
 go_wp2_with fail
 go_ret
 exact⟨rfl,HB2.out⟩
theorem self_20 (t:ByteArray) (n:Int) (ps:List Ty) (fs:FsT) (vs:VsT):SelfIs (.mk 20 t n ps fs vs) (nameT t && decide (0≤n) && decide (n≤3)):=by
 intro K w b o h
 obtain⟨A,c,A2,c2,A3,c3,⟨x0,x1,x2,x3,x4,x5⟩,ht,hP,hF,hV⟩:=h.six
 have KC:=Hd (name_prog t w ht)
 have HX2:Hid (∀ wx,Below w.heap.size w wx→wx.cell? ⟨b,o+2,none⟩=some (.int .i64 n)):=Hd fun wx hx=>cell_stays hx x2
 generalize nameT t=r at KC ⊢
 clear h ht hP hF hV
 cases r with
 | false=>
  go_enter Tryz.func96,Tryz.ntmps96
  go_wp2_with fail
  refine KC.out.mono ?_
  rintro e w2 ⟨rfl,hb2⟩
  have HB2:=Hd hb2
  clear hb2
  go_wp2_with fail
  go_ret
  exact⟨rfl,HB2.out⟩
 | true=>
  by_cases h0:0≤n
  ·have e0:decide (0≤n)=true:=by simpa using h0
   have E0:=Hd e0
   go_enter Tryz.func96,Tryz.ntmps96
   go_wp2_with fail
   refine KC.out.mono ?_
   rintro e w2 ⟨rfl,hb2⟩
   have HB2:=Hd hb2
   have y2:=HX2.out _ hb2
   clear hb2
   go_wp2_with fail
   go_ret
   exact⟨by rw[E0.out];first | rfl | simp,HB2.out⟩
  ·have e0:decide (0≤n)=false:=by simpa using h0
   have e1:n<0:=by omega
   have E0:=Hd e0
   go_enter Tryz.func96,Tryz.ntmps96
   go_wp2_with fail
   refine KC.out.mono ?_
   rintro e w2 ⟨rfl,hb2⟩
   have HB2:=Hd hb2
   have y2:=HX2.out _ hb2
   clear hb2
   go_wp2_with fail
   go_ret
   exact⟨by rw[E0.out];first | rfl | simp,HB2.out⟩
theorem self_21 (t:ByteArray) (n:Int) (ps:List Ty) (fs:FsT) (vs:VsT):SelfIs (.mk 21 t n ps fs vs) ((n == 0 && t.toList == []) || (n == 1 && nameT t)):=by
 intro K w b o h
 obtain⟨A,c,A2,c2,A3,c3,⟨x0,x1,x2,x3,x4,x5⟩,ht,hP,hF,hV⟩:=h.six
 have KC:=Hd (name_prog t w ht)
 generalize nameT t=r at KC ⊢
 clear h ht hP hF hV
 by_cases h0:n=0
 ·subst h0
  cases hl:t.toList with
  | nil=>
   go_enter Tryz.func96,Tryz.ntmps96
   go_wp2_with fail
   go_ret
   exact⟨rfl,Below.refl _ _⟩
  | cons a l=>
   go_enter Tryz.func96,Tryz.ntmps96
   go_wp2_with fail
   go_ret
   exact⟨rfl,Below.refl _ _⟩
 ·have e0:(n == 0)=false:=by simpa using h0
  have E0:=Hd e0
  by_cases h1:n=1
  ·subst h1
   go_enter Tryz.func96,Tryz.ntmps96
   go_wp2_with fail
   refine KC.out.mono ?_
   rintro e w2 ⟨rfl,hb2⟩
   have HB2:=Hd hb2
   clear hb2
   go_wp2_with fail
   go_ret
   exact⟨by first | rfl | simp,HB2.out⟩
  ·have e1:(n == 1)=false:=by simpa using h1
   have E1:=Hd e1
   go_enter Tryz.func96,Tryz.ntmps96
   go_wp2_with fail
   go_ret
   exact⟨by rw[E0.out,E1.out];rfl,Below.refl _ _⟩
theorem self_23 (t:ByteArray) (n:Int) (ps:List Ty) (fs:FsT) (vs:VsT):SelfIs (.mk 23 t n ps fs vs) (ps.all fun p=>p.k == 13):=by
 intro K w b o h
 obtain⟨A,c,A2,c2,A3,c3,⟨x0,x1,x2,x3,x4,x5⟩,ht,hP,hF,hV⟩:=h.six
 have HP:=Hd hP
 have hlp:=hP.short
 clear h ht hP hF hV
 go_enter Tryz.func96,Tryz.ntmps96
 go_wp2_with fail
 go_loopw [101] (fun v wr=>∃ (i:Nat),i≤ps.length∧v=.int .i64 i∧(ps.all fun p=>p.k == 13)=(ps.drop i).all (fun p=>p.k == 13)∧wr=w) (fun v _=>ps.length - (intOf v).toNat)
 case atStart=>exact⟨0,by omega,rfl,by rw[List.drop_zero],rfl⟩
 case round=>
  obtain⟨i,hi,rfl,he,rfl⟩:=hrel
  have HE:=Hd he
  clear he
  by_cases hin:i<ps.length
  ·have t1:decide ((i:Int)<(ps.length:Int))=true:=by simp;omega
   have wr2:wrap64 ((i:Int)+1)=((i+1:Nat):Int):=wrap_one (by omega)
   obtain⟨pb,po,hA,_,hr⟩:=HP.out.at (by omega)
   subst hA
   obtain⟨q,hq,hcq⟩:∃ q,ps[i].k=q∧wr.cell? ⟨pb,po+i*6,none⟩=some (.int .i64 q):=by
    have h1:=hr i hin
    generalize ps[i]=t at h1
    obtain⟨k,s,n,ps,fs,vs⟩:=t
    obtain⟨_,_,_,_,_,_,⟨x0,_⟩,_⟩:=h1.six
    exact⟨k,rfl,x0⟩
   have HS:=Hd (all_drop (p:=fun p:Ty=>p.k == 13) hin)
   have HM:=Hd (measI hin)
   have HIn:=Hd hin
   by_cases h13:q=13
   ·have HK:Hid (((ps[i]'hin).k == 13)=true):=Hd (by rw[hq];simpa using h13)
    have e13:(q != 13)=false:=by simpa using h13
    clear hr hi hq
    go_wp2_with fail
    refine⟨⟨i+1,HIn.out,by first | rfl | rw[wr2],by rw[HE.out,HS.out,HK.out];rfl,by first | rfl | trivial⟩,?_⟩
    first | exact HM.out | (rw[wr2];exact HM.out)
   ·have HK:Hid (((ps[i]'hin).k == 13)=false):=Hd (by rw[hq];simpa using h13)
    have e13:(q != 13)=true:=by simpa using h13
    clear hr hi hq
    go_wp2_with fail
    go_ret
    exact⟨by rw[HE.out,HS.out,HK.out];rfl,Below.refl _ _⟩
  ·have t1:decide ((i:Int)<(ps.length:Int))=false:=by simp;omega
   have HE1:Hid ((ps.all fun p=>p.k == 13)=true):=Hd (by rw[HE.out,List.drop_eq_nil_of_le (by omega)];rfl)
   clear hi
   go_wp2_with fail
   go_ret
   exact⟨by rw[HE1.out];rfl,Below.refl _ _⟩
theorem self_no (k:Int) (t:ByteArray) (n:Int) (ps:List Ty) (fs:FsT) (vs:VsT) (h9:k≠9) (h13:k≠13) (h14:k≠14) (h15:k≠15) (h16:k≠16) (h17:k≠17) (h20:k≠20) (h21:k≠21) (h22:k≠22) (h23:k≠23):SelfIs (.mk k t n ps fs vs) true:=by
 intro K w b o h
 obtain⟨A,c,A2,c2,A3,c3,⟨x0,x1,x2,x3,x4,x5⟩,-⟩:=h.six
 have t9:(k == 9)=false:=by simpa using h9
 have t13:(k == 13)=false:=by simpa using h13
 have t14:(k == 14)=false:=by simpa using h14
 have t15:(k == 15)=false:=by simpa using h15
 have t16:(k == 16)=false:=by simpa using h16
 have t17:(k == 17)=false:=by simpa using h17
 have t20:(k == 20)=false:=by simpa using h20
 have t21:(k == 21)=false:=by simpa using h21
 have t22:(k == 22)=false:=by simpa using h22
 have t23:(k == 23)=false:=by simpa using h23
 clear h h9 h13 h14 h15 h16 h17 h20 h21 h22 h23
 go_enter Tryz.func96,Tryz.ntmps96
 go_wp2_with fail
 go_ret
 exact⟨rfl,Below.refl _ _⟩
theorem self_any (k:Int) (t:ByteArray) (n:Int) (ps:List Ty) (fs:FsT) (vs:VsT) (fv:Ty→Bool) (hf:∀ f∈fs,FormIs f.2.2 (fv f.2.2)) (hv:∀ v∈vs,∀ b∈v.2,FormIs b (fv b)) :
  SelfIs (.mk k t n ps fs vs) (selfB k t n ps (fieldsB (fieldsT fs fv)) (varsB (varsT vs fv))):=by
 unfold selfB
 by_cases h9:k=9
 ·subst h9;exact self_9 t n ps fs vs
 rw[if_neg h9]
 by_cases h16:k=16
 ·subst h16;exact self_16 t n ps fs vs
 by_cases h22:k=22
 ·subst h22;exact self_22 t n ps fs vs
 by_cases h17:k=17
 ·subst h17;exact self_17 t n ps fs vs
 rw[if_neg (by omega)]
 by_cases h13:k=13
 ·subst h13;exact self_13 t n ps fs vs fv hv
 rw[if_neg h13]
 by_cases h14:k=14
 ·subst h14;exact self_14 t n ps fs vs fv hf
 rw[if_neg h14]
 by_cases h15:k=15
 ·subst h15;exact self_15 t n ps fs vs
 rw[if_neg h15]
 by_cases h20:k=20
 ·subst h20;exact self_20 t n ps fs vs
 rw[if_neg h20]
 by_cases h21:k=21
 ·subst h21;exact self_21 t n ps fs vs
 rw[if_neg h21]
 by_cases h23:k=23
 ·subst h23;exact self_23 t n ps fs vs
 rw[if_neg h23]
 exact self_no k t n ps fs vs h9 h13 h14 h15 h16 h17 h20 h21 h22 h23
theorem form_all (t:Ty):FormIs t (formT t):=Ty.ind (C:=fun t=>FormIs t (formT t)) (fun k t n ps fs vs hp hf hv=>by
 rw[formT_mk]
 exact form_step k t n ps fs vs _ formT (self_any k t n ps fs vs formT hf hv) hp) t
def formedT (t:Ty):Bool:=decide (cntT t≤4096) && formT t
theorem Formed_any {K:Nat→Prop} {w:World} {t:Ty} {cs:List Value} (h:RepT K w t cs) :
  Calls Tryz.prog 35 #[.agg cs.toArray] w fun e w'=>e=.returned (.bool (formedT t))∧Below w.heap.size w w':=formed_val h (form_all t)
theorem comp_any:CompP:=fun K w0 w g c s h hb hg hs=>by
 by_cases h2:s.length<2
 ·exact comp_short h hb h2
 ·exact comp_long h hb hg (by omega) hs
theorem union_all {K:Nat→Prop} {w:World} {l:List Ty} {A:Option Addr} {c:Nat} (hL:ListT K w l A c) (hbd:(flatU l).length≤1099511627776) (hlo:∀ b,K b→b<w.heap.size) :
  Calls Tryz.prog 68 #[.slice A l.length c] w (UnionPost K w l):=union_any sort_any sort_nil comp_any comp_nil hL hbd hlo
theorem union_p:UnionP:=fun _ _ _ _ _ hL hn hlo=>union_all hL hn hlo
end Go.Proofs.YtlpfpehegddcfaaGreatDoor
