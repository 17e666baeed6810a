import Derived.Test.YtlpfpehegddcfaaGreatDoorMn20
namespace Go.Proofs.YtlpfpehegddcfaaGreatDoor
set_option maxRecDepth 100000
set_option maxHeartbeats 64000000
open Go.RowKit
def besT (k:Int) (l:List Ty):List Ty:=tyK k :: l.filter fun t=>!(t.k == k) && infT t
theorem besT_take {k:Int} {l:List Ty} {i:Nat} (h:i<l.length):besT k (l.take (i+1))=besT k (l.take i)++(if !(l[i].k == k) && infT l[i] then [l[i]] else []):=by
 unfold besT
 rw[List.take_succ_eq_append_getElem h,List.filter_append,List.cons_append]
 congr 2
 simp only[List.filter_cons,List.filter_nil]
theorem besT_len (k:Int) (l:List Ty):(besT k l).length≤l.length+1:=by
 unfold besT
 have:=List.length_filter_le (fun t=>!(t.k == k) && infT t) l
 simp only[List.length_cons];omega
structure SrcT (K:Nat→Prop) (w0 w:World) (A:Option Addr) (l:List Ty):Prop where
 ex:∃ b,(0<l.length→A=some ⟨b,0,none⟩)∧l.length≤1099511627776∧∀ i (h:i<l.length),∃ cs,RepT K w0 l[i] cs∧∀ j u,cs[j]?=some u→w.cell? ⟨b,i*6+j,none⟩=some u
theorem OutT.src {K:Nat→Prop} {w0 w:World} {v:Value} {l:List Ty} (h:OutT K w0 w v l) (hl:l.length≤1099511627776):∃ A c,v=.slice A l.length c∧SrcT K w0 w A l:=by
 rcases InT.of_out h with ⟨rfl,rfl⟩ | ⟨g,c,rfl,-,hi⟩
 ·exact⟨none,0,rfl,⟨0,fun h=>absurd h (by simp),by simp,fun i h=>absurd h (by simp)⟩⟩
 ·exact⟨_,_,rfl,⟨g,fun _=>rfl,hl,fun i h=>hi.reps i _ (List.getElem?_eq_getElem h)⟩⟩
theorem OutT.back {K:Nat→Prop} {w0 w w':World} {v:Value} {l:List Ty} (hK:∀ b,K b→b<w0.heap.size) (hb:Below w0.heap.size w0 w) (h:OutT K w w' v l):OutT K w0 w' v l:=by
 obtain⟨vs,h1,h2⟩:=h
 refine⟨vs,⟨h1.1,?_⟩,fun i hi=>?_⟩
 ·rcases h1.2 with h3 | ⟨g,cap,cur,hv,hg,r⟩
  ·exact .inl h3
  ·exact .inr ⟨g,cap,cur,hv,Nat.le_trans hb.size hg,r⟩
 ·obtain⟨cs,h3,h4⟩:=h2 i hi
  exact⟨cs,RepT.keep (fun _ h=>h) (fun b o v hb2 hc=>(hb.cell (hK b hb2)).symm.trans hc) _ cs h3,h4⟩
theorem rep_kind (K:Nat→Prop) (w:World) (k:Int):RepT K w (tyK k) [.int .i64 k,.string ⟨#[]⟩,.int .i64 0,.slice none 0 0,.slice none 0 0,.slice none 0 0]:=
 RepT.of (ps:=[]) (fs:=[]) (vs:=[]) (by show (0:Nat)≤_;omega) ⟨0,0,⟨Nat.le_refl _,Nat.zero_le _,fun _=>rfl,fun h=>absurd h (Nat.lt_irrefl 0)⟩,fun i h=>absurd h (Nat.not_lt_zero i)⟩ ⟨0,0,⟨Nat.le_refl _,Nat.zero_le _,fun _=>rfl,fun h=>absurd h (Nat.lt_irrefl 0)⟩,fun i h=>absurd h (Nat.not_lt_zero i)⟩ ⟨0,0,⟨Nat.le_refl _,Nat.zero_le _,fun _=>rfl,fun h=>absurd h (Nat.lt_irrefl 0)⟩,fun i h=>absurd h (Nat.not_lt_zero i)⟩
theorem OutT.one {K:Nat→Prop} {w0 w:World} (k:Int) (hb:w0.heap.size≤w.heap.size):OutT K w0 (w.alloc (.cells #[.int .i64 k,.string ⟨#[]⟩,.int .i64 0,.slice none 0 0,.slice none 0 0,.slice none 0 0] 26)) (.slice (some ⟨w.heap.size,0,none⟩) 1 1) [tyK k]:=by
 refine InT.out (ts:=[tyK k]) ⟨Nat.le_refl _,by decide,⟨_,heap_alloc_new w _,rfl⟩,fun i t hi=>?_⟩ hb
 rcases i with _ | i
 ·injection hi with hi
  subst hi
  refine⟨_,rep_kind K w0 k,fun j u hj=>?_⟩
  rw[cell_of_row _ _ _ _ _ _ (heap_alloc_new w _)]
  simpa using hj
 ·exact absurd hi (by simp)
theorem OutT.later {K:Nat→Prop} {w0 w w':World} {v:Value} {l:List Ty} (h:OutT K w0 w v l) (hb:Below w.heap.size w w'):OutT K w0 w' v l:=
 h.keep fun b hv=>hb.block b (by obtain⟨vs,h1,-⟩:=h;exact (h1.lt b hv).2)
theorem OutS.nil (B:Nat) (w:World):OutS B w (.slice none 0 0) []:=World.ownsRow_nil _ _ _ _
theorem beside_ref {K:Nat→Prop} {w0 w:World} {l:List Ty} {A:Option Addr} {c:Nat} (k:Int) (hK:∀ b,K b→b<w0.heap.size) (hb:Below w0.heap.size w0 w) (hS:SrcT K w0 w A l) (hn:∀ t∈l,(namesI t).length≤1099511627776) (hl:l.length+1≤1099511627776) :
  Calls Tryz.prog 59 #[.slice A l.length c,.int .i64 k] w fun e w'=>∃ v',e=.returned v'∧OutT K w0 w' v' (besT k l)∧Below w.heap.size w w':=by
 obtain⟨b,hA,_,hat⟩:=hS
 have HAT:=Hd hat
 have HAA:=Hd hA
 have HN:=Hd hn
 have HB:=Hd hb
 have HL:=Hd hl
 have HK:=Hd hK
 clear hat hA hn hb hK
 go_enter Tryz.func59,Tryz.ntmps59
 go_wp2_with fail
 have HST0:=Hd (OutT.one (K:=K) (w:=w) (w0:=w) k (Nat.le_refl _))
 have HBW:Hid (Below w.heap.size w (w.alloc (.cells #[.int .i64 k,.string ⟨#[]⟩,.int .i64 0,.slice none 0 0,.slice none 0 0,.slice none 0 0] 26))):=Hd ((Below.refl _ _).alloc (Nat.le_refl _) _)
 obtain⟨i0,hi0,hz0,hz1,hz2⟩:=partsT infoTy
 generalize w.alloc (.cells #[.int .i64 k,.string ⟨#[]⟩,.int .i64 0,.slice none 0 0,.slice none 0 0,.slice none 0 0] 26)=w1 at *
 go_loopw [5,6] (fun ov iv wr=>∃ (i:Nat) (acc:List Ty),i≤l.length∧iv=.int .i64 i∧acc=besT k (l.take i)∧OutT K w wr ov acc∧Below w.heap.size w wr) (fun _ v _=>l.length - (intOf v).toNat)
 case atStart=>exact⟨0,[tyK k],by omega,rfl,by simp[besT],HST0.out,HBW.out⟩
 case round=>
  obtain⟨i,acc,hi,rfl,hacc,ho,hb⟩:=hrel
  have HAcc:=Hd hacc
  have HAL:Hid (acc.length≤i+1):=Hd (by rw[hacc];exact Nat.le_trans (besT_len _ _) (by simp;omega))
  clear hacc
  have HR:=Hd (And.intro ho hb)
  obtain⟨vs,hvs,-⟩:=ho
  obtain⟨A1,c1,rfl,-⟩:=sliceT hvs
  clear hvs hb
  by_cases hin:i<l.length
  ·have t1:decide ((i:Int)<(l.length:Int))=true:=by simp;omega
   have wr2:wrap64 ((i:Int)+1)=((i+1:Nat):Int):=wrap_one (by omega)
   have HM:=Hd (measI hin)
   have hA2:=HAA.out (by omega)
   obtain⟨cs,hrep,hcs⟩:=HAT.out i hin
   have HBT:=Hd (besT_take (k:=k) hin)
   have hnt:=HN.out _ (List.getElem_mem hin)
   subst hA2
   generalize l[i]=t at hrep HBT hnt
   have HIN:=Hd (infT_names t)
   obtain⟨k2,s2,n2,ps2,fs2,vs2⟩:=t
   have KI:=Hd (infers_ref (.mk k2 s2 n2 ps2 fs2 vs2) K wr wr cs (.slice none 0 0) [] ((hrep.later HB.out).later HR.out.2) (Below.refl _ _) (OutS.nil _ _) List.Pairwise.nil (by simpa using hnt))
   have HREP:=Hd (hrep.later HB.out)
   obtain⟨Aq,cq,Ag,cg,Ah,ch,rfl,-⟩:=hrep.inv
   have HIn:Hid (i+1≤l.length):=Hd hin
   have HY:Hid (∀ wx,Below w.heap.size w wx→wx.cell? ⟨b,i*6,none⟩=some (.int .i64 k2)∧wx.cell? ⟨b,i*6+1,none⟩=some (.string s2)∧wx.cell? ⟨b,i*6+2,none⟩=some (.int .i64 n2)∧wx.cell? ⟨b,i*6+3,none⟩=some (.slice Aq ps2.length cq)∧wx.cell? ⟨b,i*6+4,none⟩=some (.slice Ag fs2.length cg)∧wx.cell? ⟨b,i*6+5,none⟩=some (.slice Ah vs2.length ch)):=Hd fun wx hx=>
    ⟨cell_stays hx (hcs 0 _ rfl),cell_stays hx (hcs 1 _ rfl),cell_stays hx (hcs 2 _ rfl),cell_stays hx (hcs 3 _ rfl),cell_stays hx (hcs 4 _ rfl),cell_stays hx (hcs 5 _ rfl)⟩
   obtain⟨y0,y1,y2,y3,y4,y5⟩:=HY.out _ HR.out.2
   simp only[cells6T] at KI HREP
   have HNT:=Hd hnt
   clear hi hcs hrep hnt
   by_cases hk:k2=k
   ·have tk:(k2 != k)=false:=by simpa using hk
    have HF:Hid ((!(Ty.k (.mk k2 s2 n2 ps2 fs2 vs2) == k) && infT (.mk k2 s2 n2 ps2 fs2 vs2))=false):=Hd (by simp[Ty.k,hk])
    clear hk KI
    go_wp2_with fail
    refine⟨⟨i+1,acc,HIn.out,by first | rfl | rw[wr2],?p1,HR.out.1,HR.out.2⟩,?p3⟩
    case p1=>rw[HBT.out,HF.out,HAcc.out];simp
    case p3=>first | exact HM.out | (rw[wr2];exact HM.out)
   ·have tk:(k2 != k)=true:=by simpa using hk
    have HKK:Hid ((Ty.k (.mk k2 s2 n2 ps2 fs2 vs2) == k)=false):=Hd (by simpa [Ty.k] using hk)
    clear hk
    go_wp2_with fail
    refine KI.out.mono ?_
    rintro e w2 ⟨v2,l2,rfl,h2⟩
    have HB2:=Hd (HR.out.2.trans (h2.low.mono HR.out.2.size))
    have HO2:=Hd (HR.out.1.later h2.low)
    have HL2:Hid (infT (.mk k2 s2 n2 ps2 fs2 vs2)=decide (0<l2.length)):=Hd (by
     rw[Bool.eq_iff_iff,HIN.out,decide_eq_true_iff]
     constructor
     ·intro h
      obtain⟨x,hx⟩:=List.exists_mem_of_ne_nil _ h
      exact List.length_pos_of_mem ((h2.mem x).2 (.inr hx))
     ·intro h e
      obtain⟨x,hx⟩:=List.exists_mem_of_length_pos h
      rcases (h2.mem x).1 hx with h | h
      ·exact absurd h (by simp)
      ·rw[e] at h;exact absurd h (by simp))
    obtain⟨A2,c2,rfl,-⟩:=h2.own.list (by have h3:=h2.len;have:=HN.out;have h4:=HL.out;simp only[List.length_nil,Nat.zero_add] at h3;have:=HNT.out;omega)
    obtain⟨z0,z1,z2,z3,z4,z5⟩:=HY.out _ HB2.out
    clear h2 KI y0 y1 y2 y3 y4 y5
    by_cases hl2:0<l2.length
    ·have t2:decide (0<l2.length)=true:=decide_eq_true hl2
     have HF:Hid ((!(Ty.k (.mk k2 s2 n2 ps2 fs2 vs2) == k) && infT (.mk k2 s2 n2 ps2 fs2 vs2))=true):=Hd (by rw[HKK.out,HL2.out,decide_eq_true hl2];rfl)
     obtain⟨vs,hvs,hrs⟩:=HO2.out
     have HOw:=Hd (And.intro hvs hrs)
     have HC2:=Hd (cellsT_new w2 [.int .i64 k2,.string s2,.int .i64 n2,.slice Aq ps2.length cq,.slice Ag fs2.length cg,.slice Ah vs2.length ch] 26)
     have HL1:Hid (acc.length+1≤1099511627776):=Hd (by have:=HAL.out;have:=HIn.out;omega)
     clear hl2 hvs hrs
     go_wp2_with (at_builtin;refine wpList_plain rfl fun K' hK=>?_;go_loud (refine wp_append_own_at _ _ 22 rfl w.heap.size 26 i0 (.agg #[.int .i64 0,.string ⟨#[]⟩,.int .i64 0,.slice none 0 0,.slice none 0 0,.slice none 0 0]) 6 104 Tryz.underlying22 hi0 hz0 hz1 hz2 rfl (by decide) _ _ _ rfl (HOw.out.1.alloc _) ⟨w2.heap.size,0,none⟩ 1 1 [.int .i64 k2,.string s2,.int .i64 n2,.slice Aq ps2.length cq,.slice Ag fs2.length cg,.slice Ah vs2.length ch] rfl rfl ?a0 ?a1 ?a2 ?a3 ?a4 ?_))
     case a0=>exact HC2.out
     case a1=>
      intro u hu
      simp only[List.mem_cons,List.not_mem_nil,or_false] at hu
      rcases hu with rfl | rfl | rfl | rfl | rfl | rfl <;> rfl
     case a2=>have:=HL1.out;unfold maxLen;omega
     case a3=>have:=HL1.out;omega
     case a4=>have:=HB2.out.size;simp only[World.size_alloc];omega
     intro v5 w5 hown5 hg5 _ _
     refine hK _ _ ?_
     clear hK K'
     have HR5:=Hd (out_push2 HB2.out HOw.out.1 HOw.out.2 HREP.out hown5 hg5)
     clear hown5 hg5 z0 z1 z2 z3 z4 z5
     go_wp2_with fail
     refine⟨⟨i+1,_,HIn.out,by first | rfl | rw[wr2],?p1,HR5.out.1,HR5.out.2⟩,?p3⟩
     case p1=>rw[HBT.out,HF.out,if_pos rfl,HAcc.out]
     case p3=>first | exact HM.out | (rw[wr2];exact HM.out)
    ·have t2:decide (0<l2.length)=false:=decide_eq_false hl2
     have HF:Hid ((!(Ty.k (.mk k2 s2 n2 ps2 fs2 vs2) == k) && infT (.mk k2 s2 n2 ps2 fs2 vs2))=false):=Hd (by rw[HKK.out,HL2.out,decide_eq_false hl2];rfl)
     clear hl2
     go_wp2_with fail
     refine⟨⟨i+1,acc,HIn.out,by first | rfl | rw[wr2],?p1,HO2.out,HB2.out⟩,?p3⟩
     case p1=>rw[HBT.out,HF.out,HAcc.out];simp
     case p3=>first | exact HM.out | (rw[wr2];exact HM.out)
  ·have t1:decide ((i:Int)<(l.length:Int))=false:=by simp;omega
   have HE:Hid (l.take i=l):=Hd (List.take_of_length_le (by omega))
   clear hi
   go_wp2_with fail
   go_ret
   have h2:=HAcc.out
   rw[HE.out] at h2
   rw[←h2]
   exact⟨.slice A1 acc.length c1,rfl,OutT.back HK.out HB.out HR.out.1,HR.out.2⟩
theorem put_any {K:Nat→Prop} {w0 w:World} {v:Value} {F:List Ty} {t:Ty} {cs:List Value} (hO:OutT K w0 w v F) (hA:Asc F) (ht:RepT K w0 t cs) (hb:Below w0.heap.size w0 w) (hbd:F.length+1≤1099511627776) :
  Calls Tryz.prog 60 #[v,.agg cs.toArray] w (PutPost K w0 F t):=by
 obtain⟨k,s,n,ps,fs,vs⟩:=t
 obtain⟨A,c,A',c',A'',c'',rfl,-⟩:=ht.inv
 rcases InT.of_out hO with ⟨rfl,rfl⟩ | ⟨g,c1,rfl,hg,hin⟩
 ·exact put_nil _ _ _ _ _ _ _ _ _ _ _ _ ht hb
 ·exact put_row _ _ _ _ _ _ _ _ _ _ _ _ hin hg hA ht hb hbd
abbrev Rw:=Option Nat×Nat×Nat
def rwV:Rw→Value
 | (none,n,c)=>.slice none n c
 | (some b,n,c)=>.slice (some ⟨b,0,none⟩) n c
def rwD:Rw→DataW Unit
 | (none,n,c)=>.agg [.lit (.int .i64 n),.lit (.int .i64 c)]
 | (some b,n,c)=>.agg [.lit (.int .i64 b),.lit (.int .i64 n),.lit (.int .i64 c)]
def rwR:Value→Option (DataW Unit×List MemPlace)
 | .slice none n c=>some (rwD (none,n,c),[])
 | .slice (some ⟨b,0,none⟩) n c=>some (rwD (some b,n,c),[])
 | _=>none
theorem rwR_val (a:Rw):rwR (rwV a)=some (rwD a,[]):=by obtain⟨_ | b,n,c⟩:=a <;> rfl
theorem rwR_inv {v:Value} {a:Rw} {ps:List MemPlace} (h:rwR v=some (rwD a,ps)):v=rwV a:=by
 obtain⟨x,n,c⟩:=a
 unfold rwR at h
 split at h
 ·cases x <;> simp only[rwD,Option.some.injEq,Prod.mk.injEq,DataW.agg.injEq,List.cons.injEq,DataW.lit.injEq,Lit.int.injEq,and_true,true_and,Int.natCast_inj,reduceCtorEq,and_false,false_and] at h
  obtain⟨⟨h1,h2⟩,-⟩:=h
  rw[rwV,h1,h2]
 ·cases x <;> simp only[rwD,Option.some.injEq,Prod.mk.injEq,DataW.agg.injEq,List.cons.injEq,DataW.lit.injEq,Lit.int.injEq,and_true,true_and,Int.natCast_inj,reduceCtorEq,and_false,false_and] at h
  obtain⟨⟨h1,h2,h3⟩,-⟩:=h
  rw[rwV,h1,h2,h3]
 ·cases h
def rowMK:MK Tryz.prog Rw where
 T:=135
 S:=9
 E:=22
 val:=rwV
 dat:=rwD
 zero:=(none,0,0)
 R:=rwR
 hR:=rwR_val
 inv:=rwR_inv
 hS:=Tryz.underlying9
 hT:=Tryz.underlying135
 hz:=Tryz.zeroValue22
def rowOf (F:ByteArray→Option Rw) (s:ByteArray):Rw:=(F s).getD (none,0,0)
def rowB (m:Nat) (F:ByteArray→Option Rw) (x:Nat):Prop:=x=m∨∃ s,(rowOf F s).1=some x
structure GI (w0 w:World) (m:Nat) (F:ByteArray→Option Rw) (G:List (ByteArray×Ty)):Prop where
 map:MapIs rowMK w m G.length F
 lo:w0.heap.size≤m
 rows:∀ s,∃ vs,w.ownsRow w0.heap.size 26 6 (rwV (rowOf F s)) (gatN s G).length vs∧∀ i (h:i<(gatN s G).length),∃ cs,RepT (fun b=>b<w.heap.size∧¬ rowB m F b) w (gatN s G)[i] cs∧∀ j u,cs[j]?=some u→vs[i*6+j]?=some u
 apart:∀ s s' b,(rowOf F s).1=some b→(rowOf F s').1=some b→s=s'
 ne:∀ s,(rowOf F s).1≠some m
theorem GI.lt {w0 w:World} {m:Nat} {F:ByteArray→Option Rw} {G:List (ByteArray×Ty)} (h:GI w0 w m F G) {x:Nat} (hx:rowB m F x):w0.heap.size≤x∧x<w.heap.size:=by
 rcases hx with rfl | ⟨s,hs⟩
 ·exact⟨h.lo,h.map.lt⟩
 ·obtain⟨vs,hown,_⟩:=h.rows s
  refine hown.lt x ?_
  generalize rowOf F s=a at hs
  obtain⟨o,n,c⟩:=a
  simp only at hs
  subst hs
  rfl
theorem GI.but {w0 w w':World} {m:Nat} {F:ByteArray→Option Rw} {G:List (ByteArray×Ty)} {O:Nat→Prop} (h:GI w0 w m F G) (hb:ButG O w w') (ho:∀ x,O x→x<w.heap.size→¬ rowB m F x∧False):GI w0 w' m F G:=by
 have keepB:∀ x,x<w.heap.size→w'.heap[x]?=w.heap[x]?:=fun x hx=>hb.block x hx fun e=>(ho x e hx).2
 refine⟨h.map.keep (keepB m h.map.lt),h.lo,fun s=>?_,h.apart,h.ne⟩
 obtain⟨vs,hown,hr⟩:=h.rows s
 refine⟨vs,⟨hown.1,?_⟩,fun i hi=>?_⟩
 ·rcases hown.2 with h3 | ⟨g,cap,cur,hv,hg,hh,r⟩
  ·exact .inl h3
  ·exact .inr ⟨g,cap,cur,hv,hg,by rw[keepB g (Array.getElem?_eq_some_iff.1 hh).1];exact hh,r⟩
 ·obtain⟨cs,hcs,hv⟩:=hr i hi
  exact⟨cs,RepT.keep (fun x hx=>⟨Nat.lt_of_lt_of_le hx.1 hb.size,hx.2⟩) (fun x _ _ hx hc=>(World.cell?_of_block (keepB _ hx.1)).trans hc) _ _ hcs,hv⟩
theorem GI.later {w0 w w':World} {m:Nat} {F:ByteArray→Option Rw} {G:List (ByteArray×Ty)} (h:GI w0 w m F G) (hb:Below w.heap.size w w'):GI w0 w' m F G:=
 h.but (O:=fun _=>False) ⟨hb.os,hb.tape,hb.output,hb.size,fun k hk _=>hb.block k hk⟩ fun _ hx _=>hx.elim
theorem rowOf_upd (F:ByteArray→Option Rw) (s:ByteArray) (a:Rw) (x:ByteArray):rowOf (updF F s a) x=if s=x then a else rowOf F x:=by
 unfold rowOf updF
 by_cases e:s=x
 ·rw[if_pos e,if_pos e];rfl
 ·rw[if_neg e,if_neg e]
def HoldMid (w0 w:World) (m:Nat) (F:ByteArray→Option Rw) (G:List (ByteArray×Ty)) (w':World):Prop:=∃ F',GI w0 w' m F' G∧ButG (rowB m F) w w'∧∀ x,rowB m F' x→rowB m F x∨w.heap.size≤x
def HoldPost (w0 w:World) (m:Nat) (F:ByteArray→Option Rw) (G:List (ByteArray×Ty)):Ending→World→Prop:=fun e w'=>e=.returned (.tuple #[])∧HoldMid w0 w m F G w'
theorem HoldMid.start {w0 w:World} {m:Nat} {F:ByteArray→Option Rw} {G:List (ByteArray×Ty)} (h:GI w0 w m F G):HoldMid w0 w m F G w:=⟨F,h,ButG.refl _ _,fun _ h=>.inl h⟩
theorem HoldMid.at {w0 w wr:World} {m:Nat} {F:ByteArray→Option Rw} {G:List (ByteArray×Ty)} {K:Nat→Prop} {t:Ty} {b o:Nat} (h:HoldMid w0 w m F G wr) (ht:AtT K w t b o) (hk:∀ x,K x∨x=b→x<w.heap.size∧¬ rowB m F x):AtT K wr t b o:=by
 obtain⟨F',_,hb,_⟩:=h
 exact ht.keep (fun _ h=>h) (fun x _ _ hx hc=>hb.cell (hk x (.inl hx)).2 hc) fun _ _ hc=>hb.cell (hk b (.inr rfl)).2 hc
theorem HoldMid.comp {w0 w wr wr2 w':World} {m:Nat} {F F':ByteArray→Option Rw} {G:List (ByteArray×Ty)} (h1:ButG (rowB m F) w wr) (h2:∀ x,rowB m F' x→rowB m F x∨w.heap.size≤x) (hb:ButG (rowB m F') wr wr2) (h:HoldMid w0 wr2 m F' G w'):HoldMid w0 w m F G w':=by
 obtain⟨F2,hG,hb2,hf⟩:=h
 have h3:=hb.trans hb2 (fun x hx=>.inl hx)
 refine⟨F2,hG,h1.trans h3 h2,fun x hx=>?_⟩
 rcases hf x hx with h4 | h4
 ·exact h2 x h4
 ·exact .inr (Nat.le_trans (Nat.le_trans h1.size hb.size) h4)
theorem gi_push {w0 w w1 w2 w3:World} {m:Nat} {F:ByteArray→Option Rw} {G:List (ByteArray×Ty)} {s:ByteArray} {t:Ty} {cs vs:List Value} {v2:Value} {a2:Rw} {n:Nat} (h:GI w0 w m F G) (_:w0.heap.size≤w.heap.size) (hb1:Below w.heap.size w w1)
  (ht:RepT (fun b=>b<w.heap.size∧¬ rowB m F b) w t cs) (hvl:vs.length=(gatN s G).length*6)
  (hvr:∀ i (h:i<(gatN s G).length),∃ cs,RepT (fun b=>b<w.heap.size∧¬ rowB m F b) w (gatN s G)[i] cs∧∀ j u,cs[j]?=some u→vs[i*6+j]?=some u)
  (hown:w2.ownsRow w0.heap.size 26 6 v2 ((gatN s G).length+1) (vs++cs)) (hg2:w1.grownBy w2 (rwV (rowOf F s)).ownBlock) (hob:v2.ownBlock=(rwV (rowOf F s)).ownBlock∨v2.ownBlock=some w1.heap.size) (hv2:v2=rwV a2)
  (hm3:MapIs rowMK w3 m n (updF F s a2)) (hn:n=G.length+1) (hg3:w2.grownBy w3 (some m)) :
  GI w0 w3 m (updF F s a2) (G++[(s,t)])∧ButG (rowB m F) w w3∧∀ x,rowB m (updF F s a2) x→rowB m F x∨w.heap.size≤x:=by
 subst hn
 have obk:∀ (a:Rw),(rwV a).ownBlock=a.1:=fun a=>by obtain⟨_ | b,n,c⟩:=a <;> rfl
 rw[obk] at hg2 hob
 rw[hv2,obk] at hob
 have hs12:w.heap.size≤w1.heap.size:=hb1.size
 have hs2:w.heap.size≤w2.heap.size:=Nat.le_trans hs12 hg2.size
 have hbut2:ButG (fun x=>(rowOf F s).1=some x) w w2:=(ButG.of_below hb1).grown hg2 fun k hk=>.inl hk
 have hbut3:ButG (rowB m F) w w3:=by
  refine ButG.grown ?_ hg3 fun k hk=>.inl (.inl (by injection hk with hk;exact hk.symm))
  exact⟨hbut2.os,hbut2.tape,hbut2.output,hbut2.size,fun k hk hn=>hbut2.block k hk fun e=>hn (.inr ⟨s,e⟩)⟩
 -- the new row's block
 have hnew:∀ x,a2.1=some x→(rowOf F s).1=some x∨w.heap.size≤x:=fun x hx=>by
  rcases hob with e | e
  ·exact .inl (by rw[←e];exact hx)
  ·rw[hx] at e;injection e with e;exact .inr (by omega)
 have hfoot:∀ x,rowB m (updF F s a2) x→rowB m F x∨w.heap.size≤x:=by
  rintro x (rfl | ⟨y,hy⟩)
  ·exact .inl (.inl rfl)
  ·rw[rowOf_upd] at hy
   by_cases e:s=y
   ·rw[if_pos e] at hy
    rcases hnew x hy with h1 | h1
    ·exact .inl (.inr ⟨s,h1⟩)
    ·exact .inr h1
   ·rw[if_neg e] at hy
    exact .inl (.inr ⟨y,hy⟩)
 refine⟨⟨by rw[List.length_append,List.length_singleton];exact hm3,h.lo,fun y=>?_,fun y y' b hy hy'=>?_,fun y hy=>?_⟩,hbut3,hfoot⟩
 ·have rep3:∀ {q:Ty} {ds:List Value},RepT (fun b=>b<w.heap.size∧¬ rowB m F b) w q ds→RepT (fun b=>b<w3.heap.size∧¬ rowB m (updF F s a2) b) w3 q ds:=fun hq=>
   hq.but hbut3 fun x hx=>⟨hx.2,Nat.lt_of_lt_of_le hx.1 hbut3.size,fun e=>(hfoot x e).elim hx.2 (by omega)⟩
  rw[rowOf_upd,gatN_app,gatN_one]
  by_cases e:s=y
  ·subst e
   rw[if_pos rfl,if_pos rfl]
   refine⟨vs++cs,?_,fun i hi=>?_⟩
   ·rw[List.length_append,List.length_singleton]
    rw[hv2] at hown
    refine⟨hown.1,?_⟩
    rcases hown.2 with h3 | ⟨g,cap,cur,hv,hg,hh,r⟩
    ·exact .inl h3
    ·refine .inr ⟨g,cap,cur,hv,hg,?_,r⟩
     rw[hg3.block g (Array.getElem?_eq_some_iff.1 hh).1 (fun e=>?_)]
     ·exact hh
     ·injection e with e
      subst e
      have h1:a2.1=some g:=by rw[←obk,hv];rfl
      rcases hob with e2 | e2
      ·exact h.ne s (by rw[←e2];exact h1)
      ·rw[h1] at e2;injection e2 with e2;have:=h.map.lt;omega
   ·rw[List.length_append,List.length_singleton] at hi
    by_cases hlt:i<(gatN s G).length
    ·obtain⟨ds,h1,h2⟩:=hvr i hlt
     refine⟨ds,by rw[List.getElem_append_left hlt];exact rep3 h1,fun j u hj=>?_⟩
     have h3:=h2 j u hj
     rw[List.getElem?_append_left (List.getElem?_eq_some_iff.1 h3).1]
     exact h3
    ·obtain rfl:i=(gatN s G).length:=by omega
     refine⟨cs,by rw[List.getElem_append_right (by omega)];simpa using rep3 ht,fun j u hj=>?_⟩
     rw[List.getElem?_append_right (by omega),show (gatN s G).length*6+j - vs.length=j from by omega]
     exact hj
  ·rw[if_neg e,if_neg e,List.append_nil]
   obtain⟨us,ho,hr⟩:=h.rows y
   refine⟨us,⟨ho.1,?_⟩,fun i hi=>?_⟩
   ·rcases ho.2 with h3 | ⟨g,cap,cur,hv,hg,hh,r⟩
    ·exact .inl h3
    ·have hgy:(rowOf F y).1=some g:=by rw[←obk,hv];rfl
     have hgl:=(Array.getElem?_eq_some_iff.1 hh).1
     refine .inr ⟨g,cap,cur,hv,hg,?_,r⟩
     rw[hg3.block g (by omega) (fun e2=>by injection e2 with e2;subst e2;exact h.ne y hgy),hbut2.block g hgl fun e2=>e (h.apart s y g e2 hgy)]
     exact hh
   ·obtain⟨ds,h1,h2⟩:=hr i hi
    exact⟨ds,rep3 h1,h2⟩
 ·rw[rowOf_upd] at hy hy'
  have old:∀ z,(rowOf F z).1=some b→b<w.heap.size:=fun z hz=>(h.lt (.inr ⟨z,hz⟩)).2
  by_cases e:s=y
  ·by_cases e':s=y'
   ·exact e.symm.trans e'
   ·rw[if_pos e] at hy
    rw[if_neg e'] at hy'
    rcases hnew b hy with h1 | h1
    ·exact e.symm.trans (h.apart s y' b h1 hy')
    ·have:=old y' hy';omega
  ·rw[if_neg e] at hy
   by_cases e':s=y'
   ·rw[if_pos e'] at hy'
    rcases hnew b hy' with h1 | h1
    ·exact (h.apart y s b hy h1).trans e'
    ·have:=old y hy;omega
   ·rw[if_neg e'] at hy'
    exact h.apart y y' b hy hy'
 ·rw[rowOf_upd] at hy
  by_cases e:s=y
  ·rw[if_pos e] at hy
   rcases hnew m hy with h1 | h1
   ·exact h.ne s h1
   ·have:=h.map.lt;omega
  ·rw[if_neg e] at hy
   exact h.ne y hy
def allR (l:List Ty):List Ty:=if hasK 3 (nonN l) then besT 3 (nonN l) else if hasK 2 (nonN l) then besT 2 (nonN l) else nonN l
def dropR (n s:Bool) (t:Ty):Bool:=t.k == 9 && n || t.k == 10 && s
def keptR (l:List Ty):List Ty:=(allR l).filter fun t=>!dropR (hasK 7 (allR l)) (hasK 8 (allR l)) t
theorem hasK_iff {k:Int} {l:List Ty}:hasK k l=true↔∃ t∈l,t.k=k:=by
 unfold hasK;rw[List.any_eq_true]
 exact⟨fun ⟨t,h,e⟩=>⟨t,h,by simpa using e⟩,fun ⟨t,h,e⟩=>⟨t,h,by simpa using e⟩⟩
theorem mem_nonN {l:List Ty} {t:Ty}:t∈nonN l↔t∈flatU l∧t.k≠1:=by
 unfold nonN;rw[List.mem_filter];simp
theorem hasK_nonN {l:List Ty} {k:Int} (hk:k≠1):hasK k (nonN l)=hasK k (flatU l):=by
 rw[Bool.eq_iff_iff,hasK_iff,hasK_iff]
 exact⟨fun ⟨t,h,e⟩=>⟨t,(mem_nonN.1 h).1,e⟩,fun ⟨t,h,e⟩=>⟨t,mem_nonN.2 ⟨h,by rw[e];exact hk⟩,e⟩⟩
theorem mem_besT {k:Int} {l:List Ty} {t:Ty}:t∈besT k l↔t=tyK k∨(t∈l∧t.k≠k∧infT t=true):=by
 unfold besT;rw[List.mem_cons,List.mem_filter];simp
def PlainK (l:List Ty):Prop:=∀ t∈l,(t.k=3→t=tyK 3)∧(t.k=2→t=tyK 2)∧(t.k=7∨t.k=8∨t.k=9∨t.k=10→infT t=false)
theorem tyK_k (k:Int):(tyK k).k=k:=rfl
theorem has_of {l:List Ty} {t:Ty} (h:t∈l):hasK t.k l=true:=hasK_iff.2 ⟨t,h,rfl⟩
theorem keptR_mem {l:List Ty} (hP:PlainK (flatU l)) (t:Ty):t∈keptR l↔t∈keptU l:=by
 unfold keptR keptU
 rw[List.mem_filter,List.mem_filter]
 have n3:hasK 3 (nonN l)=hasK 3 (flatU l):=hasK_nonN (by decide)
 have n2:hasK 2 (nonN l)=hasK 2 (flatU l):=hasK_nonN (by decide)
 have hno:∀ k,(k=7∨k=8)→∀ q,(q=3∨q=2)→hasK k (besT q (nonN l))=false:=by
  intro k hk q hq
  rw[←Bool.not_eq_true,hasK_iff]
  rintro⟨x,hx,e⟩
  rcases mem_besT.1 hx with rfl | ⟨h1,-,h3⟩
  ·rw[tyK_k] at e;omega
  ·rw[(hP x (mem_nonN.1 h1).1).2.2 (by omega)] at h3;exact absurd h3 (by simp)
 unfold allR
 rw[n3,n2]
 cases h3:hasK 3 (flatU l) with
 | true=>
  simp only[if_true]
  rw[hno 7 (.inl rfl) 3 (.inl rfl),hno 8 (.inr rfl) 3 (.inl rfl),mem_besT,mem_nonN]
  obtain⟨x,hx,ex⟩:=hasK_iff.1 h3
  have hx3:=(hP x hx).1 ex
  subst hx3
  simp only[dropR,Bool.and_false,Bool.or_false,Bool.not_false,and_true]
  unfold keepT kindsOf
  rw[h3]
  constructor
  ·rintro (rfl | ⟨⟨h1,h4⟩,h5,h6⟩)
   ·exact⟨hx,by rw[tyK_k];rfl⟩
   ·refine⟨h1,?_⟩
    rw[if_neg h4,if_neg h5]
    simp[h6]
  ·rintro⟨h1,h2⟩
   by_cases e1:t.k=1
   ·rw[if_pos e1] at h2;exact absurd h2 (by simp)
   by_cases e3:t.k=3
   ·exact .inl ((hP t h1).1 e3)
   ·rw[if_neg e1,if_neg e3] at h2
    simp at h2
    exact .inr ⟨⟨h1,e1⟩,e3,h2⟩
 | false=>
  simp only[Bool.false_eq_true,if_false]
  have e3:t∈flatU l→t.k≠3:=fun h e=>by have:=has_of h;rw[e,h3] at this;exact absurd this (by simp)
  cases h2:hasK 2 (flatU l) with
  | true=>
   simp only[if_true]
   rw[hno 7 (.inl rfl) 2 (.inr rfl),hno 8 (.inr rfl) 2 (.inr rfl),mem_besT,mem_nonN]
   obtain⟨x,hx,ex⟩:=hasK_iff.1 h2
   have hx2:=(hP x hx).2.1 ex
   subst hx2
   simp only[dropR,Bool.and_false,Bool.or_false,Bool.not_false,and_true]
   unfold keepT kindsOf
   rw[h3,h2]
   constructor
   ·rintro (rfl | ⟨⟨h1,h4⟩,h5,h6⟩)
    ·exact⟨hx,by rw[tyK_k];rfl⟩
    ·refine⟨h1,?_⟩
     rw[if_neg h4,if_neg (e3 h1)]
     simp[h5,h6]
   ·rintro⟨h1,hk⟩
    by_cases e1:t.k=1
    ·rw[if_pos e1] at hk;exact absurd hk (by simp)
    by_cases e2:t.k=2
    ·exact .inl ((hP t h1).2.1 e2)
    ·rw[if_neg e1,if_neg (e3 h1)] at hk
     simp[e2] at hk
     exact .inr ⟨⟨h1,e1⟩,e2,hk⟩
  | false=>
   simp only[Bool.false_eq_true,if_false]
   have e2:t∈flatU l→t.k≠2:=fun h e=>by have:=has_of h;rw[e,h2] at this;exact absurd this (by simp)
   rw[hasK_nonN (by decide),hasK_nonN (by decide),mem_nonN]
   unfold keepT kindsOf dropR
   rw[h3,h2]
   constructor
   ·rintro⟨⟨h1,h4⟩,h5⟩
    refine⟨h1,?_⟩
    rw[if_neg h4,if_neg (e3 h1),if_neg (by simp[e2 h1])]
    by_cases k9:t.k=9 <;> by_cases k10:t.k=10 <;> simp_all
   ·rintro⟨h1,hk⟩
    by_cases e1:t.k=1
    ·rw[if_pos e1] at hk;exact absurd hk (by simp)
    rw[if_neg e1,if_neg (e3 h1),if_neg (by simp[e2 h1])] at hk
    refine⟨⟨h1,e1⟩,?_⟩
    by_cases k9:t.k=9 <;> by_cases k10:t.k=10 <;> simp_all
theorem unionR {l:List Ty} (hP:PlainK (flatU l)):shutU (sortT (keptR l))=unionT l:=by
 unfold unionT
 rw[sortT_of (asc_sortT (keptU l)) fun x=>by rw[mem_sortT,keptR_mem hP]]
theorem has_src {K:Nat→Prop} {w0 w:World} {l:List Ty} {A:Option Addr} {c:Nat} (hL:SrcT K w0 w A l) (k:Int) :
  Calls Tryz.prog 58 #[.slice A l.length c,.int .i64 k] w fun e w'=>e=.returned (.bool (hasK k l))∧w'=w:=by
 obtain⟨b,hAA,hll,hat0⟩:=hL
 have HAA:=Hd hAA
 have HAT:=Hd hat0
 clear hAA hat0
 go_enter Tryz.func58,Tryz.ntmps58
 go_wp2_with fail
 go_loopw [5] (fun v wr=>∃ (i:Nat),i≤l.length∧v=.int .i64 i∧hasK k l=hasK k (l.drop i)∧wr=w) (fun v _=>l.length - (intOf v).toNat)
 case atStart=>exact⟨0,by omega,rfl,by rw[List.drop_zero],rfl⟩
 case round=>
  obtain⟨i,hi,rfl,he,rfl⟩:=hrel
  have HE:=Hd he
  clear he
  by_cases hin:i<l.length
  ·have t1:decide ((i:Int)<(l.length:Int))=true:=by simp;omega
   have wr2:wrap64 ((i:Int)+1)=((i+1:Nat):Int):=wrap_one (by omega)
   have hA:=HAA.out (by omega)
   subst hA
   obtain⟨q,hq,hcq⟩:∃ q,(l[i]'hin).k=q∧wr.cell? ⟨b,i*6,none⟩=some (.int .i64 q):=by
    obtain⟨cs,h1,h2⟩:=HAT.out i hin
    generalize l[i]=t at h1
    obtain⟨k,s,n,ps,fs,vs⟩:=t
    obtain⟨_,_,_,_,_,_,rfl,-⟩:=h1.inv
    exact⟨k,rfl,h2 0 _ rfl⟩
   have HS:Hid (hasK k (l.drop i)=((l[i]'hin).k == k || hasK k (l.drop (i+1)))):=Hd (by rw[List.drop_eq_getElem_cons hin];rfl)
   have HM:=Hd (measI hin)
   have HIn:Hid (i+1≤l.length):=Hd hin
   by_cases hk:q=k
   ·have HK:Hid (((l[i]'hin).k == k)=true):=Hd (by rw[hq];simpa using hk)
    have e13:(q == k)=true:=by simpa using hk
    clear hi hq hk
    go_wp2_with fail
    go_ret
    exact⟨by rw[HE.out,HS.out,HK.out];rfl,rfl⟩
   ·have HK:Hid (((l[i]'hin).k == k)=false):=Hd (by rw[hq];simpa using hk)
    have e13:(q == k)=false:=by simpa using hk
    clear hi hq hk
    go_wp2_with fail
    refine⟨⟨i+1,HIn.out,by first | rfl | rw[wr2],by rw[HE.out,HS.out,HK.out];rfl,by first | rfl | trivial⟩,?_⟩
    first | exact HM.out | (rw[wr2];exact HM.out)
  ·have t1:decide ((i:Int)<(l.length:Int))=false:=by simp;omega
   have HE1:Hid (hasK k l=false):=Hd (by rw[HE.out,List.drop_eq_nil_of_le (by omega)];rfl)
   clear hi
   go_wp2_with fail
   go_ret
   exact⟨by rw[HE1.out];rfl,rfl⟩
end Go.Proofs.YtlpfpehegddcfaaGreatDoor
