import Derived.Test.YtlpfpehegddcfaaGreatDoorMn5
namespace Go.Proofs.YtlpfpehegddcfaaGreatDoor
set_option maxRecDepth 100000
set_option maxHeartbeats 64000000
open Go.RowKit
theorem pattern_any {k:Int} {w:World} {b o:Nat} (h:w.cell? ⟨b,o,none⟩=some (.int .i64 k)) (i:Nat):Calls Tryz.prog 97 #[.pointer (some ⟨b,o,none⟩),.int .i64 i] w fun e w'=>e=.returned (.bool (k == 21 && i == 1))∧w'=w:=by
 by_cases hk:k=21
 ·have te:(k == 21)=true:=by simpa using hk
  have ti:((i:Int) == 1)=(i == 1):=by rw[Bool.eq_iff_iff,beq_iff_eq,beq_iff_eq];omega
  generalize (i == 1)=q at ti ⊢
  clear hk
  go_enter Tryz.func97,Tryz.ntmps97
  go_wp2_with fail
  go_ret
  exact⟨by rw[te];rfl,rfl⟩
 ·have te:(k == 21)=false:=by simpa using hk
  clear hk
  go_enter Tryz.func97,Tryz.ntmps97
  go_wp2_with fail
  go_ret
  exact⟨by rw[te];rfl,rfl⟩
def InfP (t:Ty):Prop:=∀ (K:Nat→Prop) (w:World) (b o:Nat),AtT K w t b o→Calls Tryz.prog 65 #[.pointer (some ⟨b,o,none⟩)] w fun e w'=>e=.returned (.bool (infT t))∧w'=w
theorem infPs_drop {k:Int} {ps:List Ty} {i:Nat} (h:i<ps.length):infPs k i (ps.drop i)=((!(k == 21 && i == 1) && infT ps[i]) || infPs k (i+1) (ps.drop (i+1))):=by
 rw[List.drop_eq_getElem_cons h,infPs]
theorem infFs_drop {fs:FsT} {i:Nat} (h:i<fs.length):infFs (fs.drop i)=(infT fs[i].2.2 || infFs (fs.drop (i+1))):=by
 rw[List.drop_eq_getElem_cons h,infFs,List.any_cons];rfl
theorem inf_p {K:Nat→Prop} {ps:List Ty} {w:World} {A:Option Addr} {c i:Nat} (hP:ListT K w ps A c) (h:∀ p∈ps,InfP p) (hi:i<ps.length):∃ b o,A=some ⟨b,o,none⟩∧Calls Tryz.prog 65 #[.pointer (some ⟨b,o+i*6,none⟩)] w fun e w'=>e=.returned (.bool (infT ps[i]))∧w'=w:=by
 obtain⟨b,o,hA,_,hr⟩:=hP.at (by omega)
 exact⟨b,o,hA,h _ (List.getElem_mem hi) K w b _ (hr i hi)⟩
theorem inf_f {K:Nat→Prop} {fs:FsT} {w:World} {A:Option Addr} {c i:Nat} (hP:ListF K w fs A c) (h:∀ f∈fs,InfP f.2.2) (hi:i<fs.length):∃ b o,A=some ⟨b,o,none⟩∧Calls Tryz.prog 65 #[.pointer (some ⟨b,o+i*8+2,none⟩)] w fun e w'=>e=.returned (.bool (infT fs[i].2.2))∧w'=w:=by
 obtain⟨b,o,hA,_,hr⟩:=hP.at (by omega)
 exact⟨b,o,hA,h _ (List.getElem_mem hi) K w b _ (hr i hi).2.2.2⟩
theorem ListF.shortF {K:Nat→Prop} {w:World} {l:FsT} {A:Option Addr} {c:Nat} (h:ListF K w l A c):l.length≤1000000000000000:=by
 obtain⟨_,_,hr,_⟩:=h
 exact hr.big
theorem inf_step (k:Int) (t:ByteArray) (n:Int) (ps:List Ty) (fs:FsT) (vs:VsT) (hp:∀ p∈ps,InfP p) (hf:∀ f∈fs,InfP f.2.2):InfP (.mk k t n ps fs vs):=by
 intro K w b o h
 obtain⟨A,c,A2,c2,A3,c3,⟨x0,x1,x2,x3,x4,x5⟩,-,hP,hF,-⟩:=h.six
 rw[infT_mk]
 have hlp:=hP.short
 have hlf:=hF.shortF
 have PT:=Hd (pattern_any x0)
 have HP:=Hd fun i hi=>inf_p hP hp (i:=i) hi
 have HF:=Hd fun i hi=>inf_f hF hf (i:=i) hi
 clear h hP hF hp hf x1 x2 x5
 by_cases hk:k=22
 ·have te:(k == 22)=true:=by simpa using hk
  clear hk hlp hlf
  go_enter Tryz.func65,Tryz.ntmps65
  go_wp2_with fail
  go_ret
  exact⟨by rw[te];rfl,rfl⟩
 have te:(k == 22)=false:=by simpa using hk
 have hte:=Hd te
 clear hk
 go_enter Tryz.func65,Tryz.ntmps65
 go_wp2_with fail
 go_loopw [15] (fun v wr=>∃ (i:Nat),i≤ps.length∧v=.int .i64 i∧infPs k 0 ps=infPs k i (ps.drop i)∧wr=w) (fun v _=>ps.length - (intOf v).toNat)
 case atStart=>exact⟨0,by omega,rfl,by rw[List.drop_zero],rfl⟩
 case round=>
  obtain⟨i,hi,rfl,he,rfl⟩:=hrel
  have HE:=Hd he
  clear he
  by_cases hin:i<ps.length
  ·have t1:decide ((i:Int)<(ps.length:Int))=true:=by simp;omega
   have wr2:wrap64 ((i:Int)+1)=((i+1:Nat):Int):=wrap_one (by omega)
   obtain⟨pb,po,hA,hN⟩:=HP.out i hin
   have KN:=Hd hN
   have HS:=Hd (infPs_drop (k:=k) hin)
   have PI:=Hd (PT.out i)
   have HIn:=Hd hin
   subst hA
   generalize hq:(k == 21 && i == 1)=q at PI HS
   generalize hr:infT ps[i]=r at KN HS
   clear hN hi hq hr
   go_wp2_with fail
   refine PI.out.mono ?_
   rintro e w2 ⟨rfl,rfl⟩
   cases q with
   | true=>
    go_wp2_with fail
    refine⟨⟨i+1,HIn.out,by first | rfl | rw[wr2],by rw[HE.out,HS.out];rfl,by first | trivial | rfl⟩,?_⟩
    first | exact measI HIn.out | exact measT HIn.out | (rw[wr2];exact measI HIn.out)
   | false=>
    go_wp2_with fail
    refine KN.out.mono ?_
    rintro e w3 ⟨rfl,rfl⟩
    cases r with
    | true=>
     go_wp2_with fail
     go_ret
     exact⟨by rw[HE.out,HS.out,hte.out];rfl,rfl⟩
    | false=>
     go_wp2_with fail
     refine⟨⟨i+1,HIn.out,by first | rfl | rw[wr2],by rw[HE.out,HS.out];rfl,by first | trivial | rfl⟩,?_⟩
     first | exact measI HIn.out | exact measT HIn.out | (rw[wr2];exact measI HIn.out)
  ·have t1:decide ((i:Int)<(ps.length:Int))=false:=by simp;omega
   have HE1:Hid (infPs k 0 ps=false):=Hd (by rw[HE.out,List.drop_eq_nil_of_le (by omega)];rfl)
   clear hi
   go_wp2_with fail
   go_loopw [37] (fun v wx=>∃ (i:Nat),i≤fs.length∧v=.int .i64 i∧infFs fs=infFs (fs.drop i)∧wx=wr) (fun v _=>fs.length - (intOf v).toNat)
   case atStart=>exact⟨0,by omega,rfl,by rw[List.drop_zero],rfl⟩
   case round=>
    obtain⟨i,hi,rfl,he,rfl⟩:=hrel
    have HE:=Hd he
    clear he
    by_cases hin:i<fs.length
    ·have t1:decide ((i:Int)<(fs.length:Int))=true:=by simp;omega
     have wr2:wrap64 ((i:Int)+1)=((i+1:Nat):Int):=wrap_one (by omega)
     obtain⟨pb,po,hA,hN⟩:=HF.out i hin
     have KN:=Hd hN
     have HS:=Hd (infFs_drop hin)
     have HIn:=Hd hin
     subst hA
     generalize hr:infT fs[i].2.2=r at KN HS
     clear hN hi hr
     go_wp2_with fail
     refine KN.out.mono ?_
     rintro e w3 ⟨rfl,rfl⟩
     cases r with
     | true=>
      go_wp2_with fail
      go_ret
      exact⟨by rw[HE.out,HS.out,hte.out,HE1.out];rfl,rfl⟩
     | false=>
      go_wp2_with fail
      refine⟨⟨i+1,HIn.out,by first | rfl | rw[wr2],by rw[HE.out,HS.out];rfl,by first | trivial | rfl⟩,?_⟩
      first | exact measI HIn.out | exact measT HIn.out | (rw[wr2];exact measI HIn.out)
    ·have t1:decide ((i:Int)<(fs.length:Int))=false:=by simp;omega
     have HE2:Hid (infFs fs=false):=Hd (by rw[HE.out,List.drop_eq_nil_of_le (by omega)];rfl)
     clear hi
     go_wp2_with fail
     go_ret
     exact⟨by rw[hte.out,HE1.out,HE2.out];rfl,rfl⟩
theorem inf_any (t:Ty):InfP t:=Ty.ind (C:=InfP) (fun k t n ps fs vs hp hf _=>inf_step k t n ps fs vs hp hf) t
def KB (w:World) (g:Nat) (h:Kinds):Prop:=w.heap[g]?=some (.cells #[.bool h.a,.bool h.u,.bool h.n,.bool h.s] 143 (0,0))
def seeK (h:Kinds) (k:Int):Kinds:=⟨h.a || k == 3,h.u || k == 2,h.n || k == 7,h.s || k == 8⟩
def SetAt (g:Nat) (w w':World):Prop:=w'=w∨∃ j v,w'=w.setCell ⟨g,j,none⟩ v
theorem SetAt.size {g:Nat} {w w':World} (h:SetAt g w w'):w'.heap.size=w.heap.size:=by
 rcases h with rfl | ⟨j,v,rfl⟩
 ·rfl
 ·simp[World.setCell]
theorem SetAt.block {g:Nat} {w w':World} (h:SetAt g w w') {b:Nat} (hb:b≠g):w'.heap[b]?=w.heap[b]?:=by
 rcases h with rfl | ⟨j,v,rfl⟩
 ·rfl
 ·exact Below.heap_setCell _ _ _ _ hb
theorem SetAt.below {g B:Nat} {a w w':World} (h:SetAt g w w') (hb:Below B a w) (hg:B≤g):Below B a w':=by
 rcases h with rfl | ⟨j,v,rfl⟩
 ·exact hb
 ·exact hb.setCell hg _
theorem kb_cells {w:World} {g:Nat} {h:Kinds} (hk:KB w g h):w.cell? ⟨g,0,none⟩=some (.bool h.a)∧w.cell? ⟨g,1,none⟩=some (.bool h.u)∧w.cell? ⟨g,2,none⟩=some (.bool h.n)∧w.cell? ⟨g,3,none⟩=some (.bool h.s):=
 ⟨cell_of_row _ _ 0 _ _ _ hk,cell_of_row _ _ 1 _ _ _ hk,cell_of_row _ _ 2 _ _ _ hk,cell_of_row _ _ 3 _ _ _ hk⟩
theorem kb_set {w:World} {g:Nat} {h:Kinds} (hk:KB w g h) (j:Nat) (v:Value):(w.setCell ⟨g,j,none⟩ v).heap[g]?=some (.cells (#[.bool h.a,.bool h.u,.bool h.n,.bool h.s].setIfInBounds j v) 143 (0,0)):=
 Go.heap_setCell_same w g j _ _ v hk
theorem kb_free {w:World} {g:Nat} {h:Kinds} (hk:KB w g h) (o:Nat):w.frozen? ⟨g,o,none⟩=false:=Lib.frozen_of_heap hk o
theorem see_any {w:World} {g:Nat} {h:Kinds} {b o:Nat} {k:Int} (hk:KB w g h) (hc:w.cell? ⟨b,o,none⟩=some (.int .i64 k)) :
  Calls Tryz.prog 138 #[.pointer (some ⟨g,0,none⟩),.pointer (some ⟨b,o,none⟩)] w fun e w'=>e=.returned (.tuple #[])∧KB w' g (seeK h k)∧SetAt g w w':=by
 obtain⟨c0,c1,c2,c3⟩:=kb_cells hk
 have f0:=kb_free hk 0
 have f1:=kb_free hk 1
 have f2:=kb_free hk 2
 have f3:=kb_free hk 3
 have HK:=Hd hk
 clear hk
 by_cases h3:k=3
 ·subst h3
  go_enter Tryz.func138,Tryz.ntmps138
  go_wp2_with fail
  exact bodyPost_end (v:=.tuple #[]) (by simp[results,Tryz.results138,go_sem]) rfl ⟨rfl,by unfold KB;rw[kb_set HK.out];simp[seeK],.inr ⟨_,_,rfl⟩⟩
 by_cases h2:k=2
 ·subst h2
  go_enter Tryz.func138,Tryz.ntmps138
  go_wp2_with fail
  exact bodyPost_end (v:=.tuple #[]) (by simp[results,Tryz.results138,go_sem]) rfl ⟨rfl,by unfold KB;rw[kb_set HK.out];simp[seeK],.inr ⟨_,_,rfl⟩⟩
 by_cases h7:k=7
 ·subst h7
  go_enter Tryz.func138,Tryz.ntmps138
  go_wp2_with fail
  exact bodyPost_end (v:=.tuple #[]) (by simp[results,Tryz.results138,go_sem]) rfl ⟨rfl,by unfold KB;rw[kb_set HK.out];simp[seeK],.inr ⟨_,_,rfl⟩⟩
 by_cases h8:k=8
 ·subst h8
  go_enter Tryz.func138,Tryz.ntmps138
  go_wp2_with fail
  exact bodyPost_end (v:=.tuple #[]) (by simp[results,Tryz.results138,go_sem]) rfl ⟨rfl,by unfold KB;rw[kb_set HK.out];simp[seeK],.inr ⟨_,_,rfl⟩⟩
 have t3:(k == 3)=false:=by simpa using h3
 have t2:(k == 2)=false:=by simpa using h2
 have t7:(k == 7)=false:=by simpa using h7
 have t8:(k == 8)=false:=by simpa using h8
 have hs:seeK h k=h:=by unfold seeK;rw[t3,t2,t7,t8];simp
 have HS:=Hd hs
 clear h2 h3 h7 h8 hs
 go_enter Tryz.func138,Tryz.ntmps138
 go_wp2_with fail
 exact bodyPost_end (v:=.tuple #[]) (by simp[results,Tryz.results138,go_sem]) rfl ⟨rfl,by rw[HS.out];exact HK.out,.inl rfl⟩
theorem keep_any {K:Nat→Prop} {w:World} {g:Nat} {h:Kinds} {t:Ty} {b o:Nat} (hk:KB w g h) (ht:AtT K w t b o) :
  Calls Tryz.prog 99 #[.pointer (some ⟨g,0,none⟩),.pointer (some ⟨b,o,none⟩)] w fun e w'=>e=.returned (.bool (keepT h t))∧w'=w:=by
 obtain⟨c0,c1,c2,c3⟩:=kb_cells hk
 have KI:=Hd (inf_any t K w b o ht)
 obtain⟨k,s,n,ps,fs,vs⟩:=t
 obtain⟨A,c,A2,d2,A3,d3,⟨x0,-,-,-,-,-⟩,-⟩:=ht.six
 generalize hi:infT (.mk k s n ps fs vs)=q at KI
 have hkp:keepT h (.mk k s n ps fs vs)=if k=1 then false else if k=3 then true else if k=2∧h.a=false then true else if h.a=true∨h.u=true then q else if k=9 then !h.n else if k=10 then !h.s else true:=by unfold keepT;rw[hi];rfl
 rw[hkp]
 obtain⟨ha,hu,hn,hs⟩:=h
 simp only at c0 c1 c2 c3 ⊢
 clear hk ht hi hkp
 by_cases h1:k=1
 ·subst h1
  go_enter Tryz.func99,Tryz.ntmps99
  go_wp2_with fail
  go_ret
  exact⟨rfl,rfl⟩
 have t1:(k == 1)=false:=by simpa using h1
 rw[if_neg h1]
 clear h1
 by_cases h3:k=3
 ·subst h3
  go_enter Tryz.func99,Tryz.ntmps99
  go_wp2_with fail
  go_ret
  exact⟨rfl,rfl⟩
 have t3:(k == 3)=false:=by simpa using h3
 rw[if_neg h3]
 clear h3
 by_cases h2:k=2
 ·subst h2
  cases ha with
  | false=>
   go_enter Tryz.func99,Tryz.ntmps99
   go_wp2_with fail
   go_ret
   exact⟨rfl,rfl⟩
  | true=>
   rw[if_neg (by decide),if_pos (.inl rfl)]
   go_enter Tryz.func99,Tryz.ntmps99
   go_wp2_with fail
   refine KI.out.mono ?_
   rintro e w2 ⟨rfl,rfl⟩
   go_wp2_with fail
   go_ret
   exact⟨rfl,rfl⟩
 have t2:(k == 2)=false:=by simpa using h2
 rw[if_neg (fun h=>h2 h.1)]
 clear h2
 cases ha with
 | true=>
  rw[if_pos (by simp)]
  go_enter Tryz.func99,Tryz.ntmps99
  go_wp2_with fail
  refine KI.out.mono ?_
  rintro e w2 ⟨rfl,rfl⟩
  go_wp2_with fail
  go_ret
  exact⟨rfl,rfl⟩
 | false=>
 cases hu with
 | true=>
  rw[if_pos (by simp)]
  go_enter Tryz.func99,Tryz.ntmps99
  go_wp2_with fail
  refine KI.out.mono ?_
  rintro e w2 ⟨rfl,rfl⟩
  go_wp2_with fail
  go_ret
  exact⟨rfl,rfl⟩
 | false=>
 rw[if_neg (by decide)]
 by_cases h9:k=9
 ·subst h9
  go_enter Tryz.func99,Tryz.ntmps99
  go_wp2_with fail
  go_ret
  exact⟨rfl,rfl⟩
 have t9:(k == 9)=false:=by simpa using h9
 rw[if_neg h9]
 clear h9
 by_cases h10:k=10
 ·subst h10
  go_enter Tryz.func99,Tryz.ntmps99
  go_wp2_with fail
  go_ret
  exact⟨rfl,rfl⟩
 have t10:(k == 10)=false:=by simpa using h10
 rw[if_neg h10]
 clear h10
 go_enter Tryz.func99,Tryz.ntmps99
 go_wp2_with fail
 go_ret
 exact⟨rfl,rfl⟩
theorem partsT {P:Program} {t:TypeId} {z:Option Value} {s b:Nat} (h:(P.info? t).map (fun i=>(i.zero,i.size,i.bytes))=some (z,s,b)):∃ i,P.info? t=some i∧i.zero=z∧i.size=s∧i.bytes=b:=by
 cases hi:P.info? t with
 | none=>rw[hi] at h;cases h
 | some i=>rw[hi] at h;simp at h;exact⟨i,rfl,h.1,h.2.1,h.2.2⟩
theorem infoTy:(Tryz.prog.info? 26).map (fun i=>(i.zero,i.size,i.bytes))=some (some (.agg #[.int .i64 0,.string ⟨#[]⟩,.int .i64 0,.slice none 0 0,.slice none 0 0,.slice none 0 0]),6,104):=by kernel_rfl
theorem sliceT {w:World} {base:Nat} {e:TypeId} {size n:Nat} {v:Value} {xs:List Value} (h:w.ownsRow base e size v n xs):∃ A c,v=.slice A n c∧(A=none→n=0∧c=0):=by
 rcases h.2 with ⟨hv,hn⟩ | ⟨g,cap,cur,hv,_⟩
 ·exact⟨none,0,by rw[hv,hn],fun _=>⟨hn,rfl⟩⟩
 ·exact⟨_,cap,hv,fun h=>by cases h⟩
theorem typeT {w:World} {base:Nat} {e:TypeId} {size n:Nat} {v:Value} {xs:List Value} (h:w.ownsRow base e size v n xs) {b:Nat} (hb:v.ownBlock=some b):∃ c,w.heap[b]?=some (.cells c e (0,0)):=by
 rcases h.2 with ⟨rfl,_⟩ | ⟨g,cap,cur,rfl,_,hg,_⟩
 ·cases hb
 ·injection hb with hb
  exact⟨cur,by rw[←hb];exact hg⟩
theorem cellsT_new (w:World) (cs:List Value) (T:TypeId):∀ j u,cs[j]?=some u→(w.alloc (.cells cs.toArray T)).cell? ((⟨w.heap.size,0,none⟩:Addr).add j)=some u:=by
 intro j u hj
 have e:((⟨w.heap.size,0,none⟩:Addr).add j)=⟨w.heap.size,j,none⟩:=by
  unfold Addr.add
  by_cases h2:j=0 <;> simp[h2]
 rw[e,Ch (heap_alloc_new w _)]
 simpa using hj
structure OutT (K:Nat→Prop) (w0 w:World) (v:Value) (ts:List Ty):Prop where
 ex:∃ vs,w.ownsRow w0.heap.size 26 6 v ts.length vs∧∀ i (h:i<ts.length),∃ cs,RepT K w0 ts[i] cs∧∀ j u,cs[j]?=some u→vs[i*6+j]?=some u
theorem RepT.six {K:Nat→Prop} {w:World} {t:Ty} {cs:List Value} (h:RepT K w t cs):cs.length=6:=by
 obtain⟨k,s,n,ps,fs,vs⟩:=t
 obtain⟨A,c,A',c',A'',c'',rfl,_⟩:=h.inv
 rfl
theorem OutT.snoc {K:Nat→Prop} {w0 w':World} {v':Value} {ts:List Ty} {t:Ty} {vs cs:List Value} (hl:vs.length=ts.length*6) (h:∀ i (h:i<ts.length),∃ cs,RepT K w0 ts[i] cs∧∀ j u,cs[j]?=some u→vs[i*6+j]?=some u)
  (ht:RepT K w0 t cs) (ho:w'.ownsRow w0.heap.size 26 6 v' (ts.length+1) (vs++cs)):OutT K w0 w' v' (ts++[t]):=by
 refine⟨⟨vs++cs,by rw[List.length_append];exact ho,fun i hi=>?_⟩⟩
 rw[List.length_append,List.length_singleton] at hi
 by_cases hlt:i<ts.length
 ·obtain⟨cs',h1,h2⟩:=h i hlt
  refine⟨cs',by rw[List.getElem_append_left hlt];exact h1,fun j u hj=>?_⟩
  have h3:=h2 j u hj
  rw[List.getElem?_append_left (List.getElem?_eq_some_iff.1 h3).1]
  exact h3
 ·obtain rfl:i=ts.length:=by omega
  refine⟨cs,by rw[List.getElem_append_right (by omega)];simpa using ht,fun j u hj=>?_⟩
  rw[List.getElem?_append_right (by omega),show ts.length*6+j - vs.length=j from by omega]
  exact hj
theorem OutT.keep {K:Nat→Prop} {w0 w w':World} {v:Value} {ts:List Ty} (h:OutT K w0 w v ts) (hk:∀ b,v.ownBlock=some b→w'.heap[b]?=w.heap[b]?):OutT K w0 w' v ts:=by
 obtain⟨vs,h1,h2⟩:=h
 refine⟨vs,⟨h1.1,?_⟩,h2⟩
 rcases h1.2 with h3 | ⟨g,cap,cur,hv,hg,hh,r⟩
 ·exact .inl h3
 ·exact .inr ⟨g,cap,cur,hv,hg,by rw[hk g (by rw[hv];rfl)];exact hh,r⟩
def seeL (h:Kinds) (l:List Ty):Kinds:=l.foldl (fun h t=>seeK h t.k) h
theorem seeL_app (h:Kinds) (l l':List Ty):seeL h (l++l')=seeL (seeL h l) l':=by unfold seeL;rw[List.foldl_append]
theorem flatU_take {l:List Ty} {i:Nat} (h:i<l.length):flatU (l.take (i+1))=flatU (l.take i)++parts1 l[i]:=by
 rw[List.take_succ_eq_append_getElem h,flatU_app]
 simp[flatU]
theorem flatU_split (l:List Ty) (i:Nat):flatU l=flatU (l.take i)++flatU (l.drop i):=by
 rw[←flatU_app,List.take_append_drop]
theorem kb_out {K:Nat→Prop} {w0 w:World} {v:Value} {ts:List Ty} {g:Nat} {h:Kinds} (hk:KB w g h) (ho:OutT K w0 w v ts):v.ownBlock≠some g:=by
 intro e
 obtain⟨vs,h1,_⟩:=ho
 obtain⟨c,hc⟩:=typeT h1 e
 rw[hk] at hc
 injection hc with hc
 injection hc with _ hc
 exact absurd hc (by decide)
def FlatP (l:List Ty):Prop:=∀ (K:Nat→Prop) (w0 w:World) (A:Option Addr) (c:Nat) (v:Value) (os:List Ty) (g:Nat) (h:Kinds),ListT K w0 l A c→Below w0.heap.size w0 w→w0.heap.size≤g→KB w g h→OutT K w0 w v os→os.length+(flatU l).length≤1099511627776 →
 Calls Tryz.prog 98 #[v,.slice A l.length c,.pointer (some ⟨g,0,none⟩)] w fun e w'=>∃ v',e=.returned v'∧OutT K w0 w' v' (os++flatU l)∧KB w' g (seeL h (flatU l))∧Below w0.heap.size w0 w'
theorem out_push {K:Nat→Prop} {w0 w2 w5:World} {v v5:Value} {os:List Ty} {t:Ty} {g:Nat} {h:Kinds} {cs vs:List Value} (hK:KB w2 g h) (hb:Below w0.heap.size w0 w2) (ho:w2.ownsRow w0.heap.size 26 6 v os.length vs) (hr:∀ i (h:i<os.length),∃ cs,RepT K w0 os[i] cs∧∀ j u,cs[j]?=some u→vs[i*6+j]?=some u)
  (ht:RepT K w0 t cs) (hown:w5.ownsRow w0.heap.size 26 6 v5 (os.length+1) (vs++cs)) (hg:(w2.alloc (.cells cs.toArray 26)).grownBy w5 v.ownBlock) :
  OutT K w0 w5 v5 (os++[t])∧KB w5 g h∧Below w0.heap.size w0 w5:=by
 have hgl:g<w2.heap.size:=(Array.getElem?_eq_some_iff.1 hK).1
 have hne:=kb_out hK ⟨vs,ho,hr⟩
 have hl1:w2.heap.size≤(w2.alloc (.cells cs.toArray 26)).heap.size:=by simp
 refine⟨OutT.snoc (ho.1) hr ht hown,?_,(hb.alloc hb.size _).grown hg (Nat.le_trans hb.size hl1) fun k hk=>(ho.lt k hk).1⟩
 unfold KB
 rw[hg.block g (by omega) (fun e=>hne e.symm),Below.heap_alloc _ _ _ hgl]
 exact hK
structure Shp where
 t:Bool
 n:Bool
 f:Bool
 v:Bool
 lo:Int
 hi:Int
 known:Bool
def shapeK (k:Int):Shp:=
 if 1≤k∧k≤8 then ⟨false,false,false,false,0,0,true⟩ else if k=9 then ⟨false,true,false,false,0,0,true⟩ else if k=10∨k=16∨k=22 then ⟨true,false,false,false,0,0,true⟩
 else if k=11∨k=18 then ⟨false,false,false,false,1,1,true⟩ else if k=12 then ⟨false,false,false,false,0,-1,true⟩ else if k=13 then ⟨false,false,false,true,1,-1,true⟩
 else if k=14 then ⟨false,false,true,false,0,0,true⟩ else if k=15∨k=23 then ⟨false,false,false,false,2,-1,true⟩ else if k=17 then ⟨true,false,false,false,0,-1,true⟩
 else if k=19 then ⟨false,false,false,false,2,2,true⟩ else if k=20 then ⟨true,true,false,false,2,2,true⟩ else if k=21 then ⟨true,true,false,false,4,4,true⟩ else ⟨false,false,false,false,0,0,false⟩
def shpV (s:Shp):Value:=.agg #[.bool s.t,.bool s.n,.bool s.f,.bool s.v,.int .i64 s.lo,.int .i64 s.hi]
theorem shape_1 (w:World):Calls Tryz.prog 94 #[.int .i64 1] w fun e w'=>e=.returned (.tuple #[shpV (shapeK 1),.bool (shapeK 1).known])∧Below w.heap.size w w':=by
 go_enter Tryz.func94,Tryz.ntmps94
 go_wp2_with fail
 exact bodyPost_ret (v:=.tuple #[shpV (shapeK 1),.bool (shapeK 1).known]) (by simp[results,Tryz.results94,go_sem,shpV,shapeK]) rfl ⟨rfl,(Below.refl _ _).alloc (Nat.le_refl _) _⟩
theorem shape_2 (w:World):Calls Tryz.prog 94 #[.int .i64 2] w fun e w'=>e=.returned (.tuple #[shpV (shapeK 2),.bool (shapeK 2).known])∧Below w.heap.size w w':=by
 go_enter Tryz.func94,Tryz.ntmps94
 go_wp2_with fail
 exact bodyPost_ret (v:=.tuple #[shpV (shapeK 2),.bool (shapeK 2).known]) (by simp[results,Tryz.results94,go_sem,shpV,shapeK]) rfl ⟨rfl,(Below.refl _ _).alloc (Nat.le_refl _) _⟩
theorem shape_3 (w:World):Calls Tryz.prog 94 #[.int .i64 3] w fun e w'=>e=.returned (.tuple #[shpV (shapeK 3),.bool (shapeK 3).known])∧Below w.heap.size w w':=by
 go_enter Tryz.func94,Tryz.ntmps94
 go_wp2_with fail
 exact bodyPost_ret (v:=.tuple #[shpV (shapeK 3),.bool (shapeK 3).known]) (by simp[results,Tryz.results94,go_sem,shpV,shapeK]) rfl ⟨rfl,(Below.refl _ _).alloc (Nat.le_refl _) _⟩
theorem shape_4 (w:World):Calls Tryz.prog 94 #[.int .i64 4] w fun e w'=>e=.returned (.tuple #[shpV (shapeK 4),.bool (shapeK 4).known])∧Below w.heap.size w w':=by
 go_enter Tryz.func94,Tryz.ntmps94
 go_wp2_with fail
 exact bodyPost_ret (v:=.tuple #[shpV (shapeK 4),.bool (shapeK 4).known]) (by simp[results,Tryz.results94,go_sem,shpV,shapeK]) rfl ⟨rfl,(Below.refl _ _).alloc (Nat.le_refl _) _⟩
theorem shape_5 (w:World):Calls Tryz.prog 94 #[.int .i64 5] w fun e w'=>e=.returned (.tuple #[shpV (shapeK 5),.bool (shapeK 5).known])∧Below w.heap.size w w':=by
 go_enter Tryz.func94,Tryz.ntmps94
 go_wp2_with fail
 exact bodyPost_ret (v:=.tuple #[shpV (shapeK 5),.bool (shapeK 5).known]) (by simp[results,Tryz.results94,go_sem,shpV,shapeK]) rfl ⟨rfl,(Below.refl _ _).alloc (Nat.le_refl _) _⟩
theorem shape_6 (w:World):Calls Tryz.prog 94 #[.int .i64 6] w fun e w'=>e=.returned (.tuple #[shpV (shapeK 6),.bool (shapeK 6).known])∧Below w.heap.size w w':=by
 go_enter Tryz.func94,Tryz.ntmps94
 go_wp2_with fail
 exact bodyPost_ret (v:=.tuple #[shpV (shapeK 6),.bool (shapeK 6).known]) (by simp[results,Tryz.results94,go_sem,shpV,shapeK]) rfl ⟨rfl,(Below.refl _ _).alloc (Nat.le_refl _) _⟩
theorem shape_7 (w:World):Calls Tryz.prog 94 #[.int .i64 7] w fun e w'=>e=.returned (.tuple #[shpV (shapeK 7),.bool (shapeK 7).known])∧Below w.heap.size w w':=by
 go_enter Tryz.func94,Tryz.ntmps94
 go_wp2_with fail
 exact bodyPost_ret (v:=.tuple #[shpV (shapeK 7),.bool (shapeK 7).known]) (by simp[results,Tryz.results94,go_sem,shpV,shapeK]) rfl ⟨rfl,(Below.refl _ _).alloc (Nat.le_refl _) _⟩
theorem shape_8 (w:World):Calls Tryz.prog 94 #[.int .i64 8] w fun e w'=>e=.returned (.tuple #[shpV (shapeK 8),.bool (shapeK 8).known])∧Below w.heap.size w w':=by
 go_enter Tryz.func94,Tryz.ntmps94
 go_wp2_with fail
 exact bodyPost_ret (v:=.tuple #[shpV (shapeK 8),.bool (shapeK 8).known]) (by simp[results,Tryz.results94,go_sem,shpV,shapeK]) rfl ⟨rfl,(Below.refl _ _).alloc (Nat.le_refl _) _⟩
theorem shape_9 (w:World):Calls Tryz.prog 94 #[.int .i64 9] w fun e w'=>e=.returned (.tuple #[shpV (shapeK 9),.bool (shapeK 9).known])∧Below w.heap.size w w':=by
 go_enter Tryz.func94,Tryz.ntmps94
 go_wp2_with fail
 exact bodyPost_ret (v:=.tuple #[shpV (shapeK 9),.bool (shapeK 9).known]) (by simp[results,Tryz.results94,go_sem,shpV,shapeK]) rfl ⟨rfl,(Below.refl _ _).alloc (Nat.le_refl _) _⟩
theorem shape_10 (w:World):Calls Tryz.prog 94 #[.int .i64 10] w fun e w'=>e=.returned (.tuple #[shpV (shapeK 10),.bool (shapeK 10).known])∧Below w.heap.size w w':=by
 go_enter Tryz.func94,Tryz.ntmps94
 go_wp2_with fail
 exact bodyPost_ret (v:=.tuple #[shpV (shapeK 10),.bool (shapeK 10).known]) (by simp[results,Tryz.results94,go_sem,shpV,shapeK]) rfl ⟨rfl,(Below.refl _ _).alloc (Nat.le_refl _) _⟩
theorem shape_11 (w:World):Calls Tryz.prog 94 #[.int .i64 11] w fun e w'=>e=.returned (.tuple #[shpV (shapeK 11),.bool (shapeK 11).known])∧Below w.heap.size w w':=by
 go_enter Tryz.func94,Tryz.ntmps94
 go_wp2_with fail
 exact bodyPost_ret (v:=.tuple #[shpV (shapeK 11),.bool (shapeK 11).known]) (by simp[results,Tryz.results94,go_sem,shpV,shapeK]) rfl ⟨rfl,(Below.refl _ _).alloc (Nat.le_refl _) _⟩
theorem shape_12 (w:World):Calls Tryz.prog 94 #[.int .i64 12] w fun e w'=>e=.returned (.tuple #[shpV (shapeK 12),.bool (shapeK 12).known])∧Below w.heap.size w w':=by
 go_enter Tryz.func94,Tryz.ntmps94
 go_wp2_with fail
 exact bodyPost_ret (v:=.tuple #[shpV (shapeK 12),.bool (shapeK 12).known]) (by simp[results,Tryz.results94,go_sem,shpV,shapeK]) rfl ⟨rfl,(Below.refl _ _).alloc (Nat.le_refl _) _⟩
theorem shape_13 (w:World):Calls Tryz.prog 94 #[.int .i64 13] w fun e w'=>e=.returned (.tuple #[shpV (shapeK 13),.bool (shapeK 13).known])∧Below w.heap.size w w':=by
 go_enter Tryz.func94,Tryz.ntmps94
 go_wp2_with fail
 exact bodyPost_ret (v:=.tuple #[shpV (shapeK 13),.bool (shapeK 13).known]) (by simp[results,Tryz.results94,go_sem,shpV,shapeK]) rfl ⟨rfl,(Below.refl _ _).alloc (Nat.le_refl _) _⟩
theorem shape_14 (w:World):Calls Tryz.prog 94 #[.int .i64 14] w fun e w'=>e=.returned (.tuple #[shpV (shapeK 14),.bool (shapeK 14).known])∧Below w.heap.size w w':=by
 go_enter Tryz.func94,Tryz.ntmps94
 go_wp2_with fail
 exact bodyPost_ret (v:=.tuple #[shpV (shapeK 14),.bool (shapeK 14).known]) (by simp[results,Tryz.results94,go_sem,shpV,shapeK]) rfl ⟨rfl,(Below.refl _ _).alloc (Nat.le_refl _) _⟩
theorem shape_15 (w:World):Calls Tryz.prog 94 #[.int .i64 15] w fun e w'=>e=.returned (.tuple #[shpV (shapeK 15),.bool (shapeK 15).known])∧Below w.heap.size w w':=by
 go_enter Tryz.func94,Tryz.ntmps94
 go_wp2_with fail
 exact bodyPost_ret (v:=.tuple #[shpV (shapeK 15),.bool (shapeK 15).known]) (by simp[results,Tryz.results94,go_sem,shpV,shapeK]) rfl ⟨rfl,(Below.refl _ _).alloc (Nat.le_refl _) _⟩
theorem shape_16 (w:World):Calls Tryz.prog 94 #[.int .i64 16] w fun e w'=>e=.returned (.tuple #[shpV (shapeK 16),.bool (shapeK 16).known])∧Below w.heap.size w w':=by
 go_enter Tryz.func94,Tryz.ntmps94
 go_wp2_with fail
 exact bodyPost_ret (v:=.tuple #[shpV (shapeK 16),.bool (shapeK 16).known]) (by simp[results,Tryz.results94,go_sem,shpV,shapeK]) rfl ⟨rfl,(Below.refl _ _).alloc (Nat.le_refl _) _⟩
theorem shape_17 (w:World):Calls Tryz.prog 94 #[.int .i64 17] w fun e w'=>e=.returned (.tuple #[shpV (shapeK 17),.bool (shapeK 17).known])∧Below w.heap.size w w':=by
 go_enter Tryz.func94,Tryz.ntmps94
 go_wp2_with fail
 exact bodyPost_ret (v:=.tuple #[shpV (shapeK 17),.bool (shapeK 17).known]) (by simp[results,Tryz.results94,go_sem,shpV,shapeK]) rfl ⟨rfl,(Below.refl _ _).alloc (Nat.le_refl _) _⟩
theorem shape_18 (w:World):Calls Tryz.prog 94 #[.int .i64 18] w fun e w'=>e=.returned (.tuple #[shpV (shapeK 18),.bool (shapeK 18).known])∧Below w.heap.size w w':=by
 go_enter Tryz.func94,Tryz.ntmps94
 go_wp2_with fail
 exact bodyPost_ret (v:=.tuple #[shpV (shapeK 18),.bool (shapeK 18).known]) (by simp[results,Tryz.results94,go_sem,shpV,shapeK]) rfl ⟨rfl,(Below.refl _ _).alloc (Nat.le_refl _) _⟩
theorem shape_19 (w:World):Calls Tryz.prog 94 #[.int .i64 19] w fun e w'=>e=.returned (.tuple #[shpV (shapeK 19),.bool (shapeK 19).known])∧Below w.heap.size w w':=by
 go_enter Tryz.func94,Tryz.ntmps94
 go_wp2_with fail
 exact bodyPost_ret (v:=.tuple #[shpV (shapeK 19),.bool (shapeK 19).known]) (by simp[results,Tryz.results94,go_sem,shpV,shapeK]) rfl ⟨rfl,(Below.refl _ _).alloc (Nat.le_refl _) _⟩
theorem shape_20 (w:World):Calls Tryz.prog 94 #[.int .i64 20] w fun e w'=>e=.returned (.tuple #[shpV (shapeK 20),.bool (shapeK 20).known])∧Below w.heap.size w w':=by
 go_enter Tryz.func94,Tryz.ntmps94
 go_wp2_with fail
 exact bodyPost_ret (v:=.tuple #[shpV (shapeK 20),.bool (shapeK 20).known]) (by simp[results,Tryz.results94,go_sem,shpV,shapeK]) rfl ⟨rfl,(Below.refl _ _).alloc (Nat.le_refl _) _⟩
theorem shape_21 (w:World):Calls Tryz.prog 94 #[.int .i64 21] w fun e w'=>e=.returned (.tuple #[shpV (shapeK 21),.bool (shapeK 21).known])∧Below w.heap.size w w':=by
 go_enter Tryz.func94,Tryz.ntmps94
 go_wp2_with fail
 exact bodyPost_ret (v:=.tuple #[shpV (shapeK 21),.bool (shapeK 21).known]) (by simp[results,Tryz.results94,go_sem,shpV,shapeK]) rfl ⟨rfl,(Below.refl _ _).alloc (Nat.le_refl _) _⟩
theorem shape_22 (w:World):Calls Tryz.prog 94 #[.int .i64 22] w fun e w'=>e=.returned (.tuple #[shpV (shapeK 22),.bool (shapeK 22).known])∧Below w.heap.size w w':=by
 go_enter Tryz.func94,Tryz.ntmps94
 go_wp2_with fail
 exact bodyPost_ret (v:=.tuple #[shpV (shapeK 22),.bool (shapeK 22).known]) (by simp[results,Tryz.results94,go_sem,shpV,shapeK]) rfl ⟨rfl,(Below.refl _ _).alloc (Nat.le_refl _) _⟩
theorem shape_23 (w:World):Calls Tryz.prog 94 #[.int .i64 23] w fun e w'=>e=.returned (.tuple #[shpV (shapeK 23),.bool (shapeK 23).known])∧Below w.heap.size w w':=by
 go_enter Tryz.func94,Tryz.ntmps94
 go_wp2_with fail
 exact bodyPost_ret (v:=.tuple #[shpV (shapeK 23),.bool (shapeK 23).known]) (by simp[results,Tryz.results94,go_sem,shpV,shapeK]) rfl ⟨rfl,(Below.refl _ _).alloc (Nat.le_refl _) _⟩
theorem shape_no (k:Int) (w:World) (hk:k<1∨23<k):Calls Tryz.prog 94 #[.int .i64 k] w fun e w'=>e=.returned (.tuple #[shpV (shapeK k),.bool (shapeK k).known])∧Below w.heap.size w w':=by
 have HS:Hid (shapeK k=⟨false,false,false,false,0,0,false⟩):=Hd (by
  unfold shapeK
  repeat rw[if_neg (by omega)])
 have t1:(k == 1)=false:=by rw[beq_eq_false_iff_ne];omega
 have t2:(k == 2)=false:=by rw[beq_eq_false_iff_ne];omega
 have t3:(k == 3)=false:=by rw[beq_eq_false_iff_ne];omega
 have t4:(k == 4)=false:=by rw[beq_eq_false_iff_ne];omega
 have t5:(k == 5)=false:=by rw[beq_eq_false_iff_ne];omega
 have t6:(k == 6)=false:=by rw[beq_eq_false_iff_ne];omega
 have t7:(k == 7)=false:=by rw[beq_eq_false_iff_ne];omega
 have t8:(k == 8)=false:=by rw[beq_eq_false_iff_ne];omega
 have t9:(k == 9)=false:=by rw[beq_eq_false_iff_ne];omega
 have t10:(k == 10)=false:=by rw[beq_eq_false_iff_ne];omega
 have t11:(k == 11)=false:=by rw[beq_eq_false_iff_ne];omega
 have t12:(k == 12)=false:=by rw[beq_eq_false_iff_ne];omega
 have t13:(k == 13)=false:=by rw[beq_eq_false_iff_ne];omega
 have t14:(k == 14)=false:=by rw[beq_eq_false_iff_ne];omega
 have t15:(k == 15)=false:=by rw[beq_eq_false_iff_ne];omega
 have t16:(k == 16)=false:=by rw[beq_eq_false_iff_ne];omega
 have t17:(k == 17)=false:=by rw[beq_eq_false_iff_ne];omega
 have t18:(k == 18)=false:=by rw[beq_eq_false_iff_ne];omega
 have t19:(k == 19)=false:=by rw[beq_eq_false_iff_ne];omega
 have t20:(k == 20)=false:=by rw[beq_eq_false_iff_ne];omega
 have t21:(k == 21)=false:=by rw[beq_eq_false_iff_ne];omega
 have t22:(k == 22)=false:=by rw[beq_eq_false_iff_ne];omega
 have t23:(k == 23)=false:=by rw[beq_eq_false_iff_ne];omega
 rw[HS.out]
 clear hk
 go_enter Tryz.func94,Tryz.ntmps94
 go_wp2_with fail
 exact bodyPost_ret (v:=.tuple #[shpV ⟨false,false,false,false,0,0,false⟩,.bool false]) (by simp[results,Tryz.results94,go_sem,shpV]) rfl ⟨rfl,(Below.refl _ _).alloc (Nat.le_refl _) _⟩
theorem shape_any (k:Int) (w:World):Calls Tryz.prog 94 #[.int .i64 k] w fun e w'=>e=.returned (.tuple #[shpV (shapeK k),.bool (shapeK k).known])∧Below w.heap.size w w':=by
 by_cases h:k<1∨23<k
 ·exact shape_no k w h
 ·have:k=1∨k=2∨k=3∨k=4∨k=5∨k=6∨k=7∨k=8∨k=9∨k=10∨k=11∨k=12∨k=13∨k=14∨k=15∨k=16∨k=17∨k=18∨k=19∨k=20∨k=21∨k=22∨k=23:=by omega
  rcases this with rfl | rfl | rfl | rfl | rfl | rfl | rfl | rfl | rfl | rfl | rfl | rfl | rfl | rfl | rfl | rfl | rfl | rfl | rfl | rfl | rfl | rfl | rfl
  ·exact shape_1 w
  ·exact shape_2 w
  ·exact shape_3 w
  ·exact shape_4 w
  ·exact shape_5 w
  ·exact shape_6 w
  ·exact shape_7 w
  ·exact shape_8 w
  ·exact shape_9 w
  ·exact shape_10 w
  ·exact shape_11 w
  ·exact shape_12 w
  ·exact shape_13 w
  ·exact shape_14 w
  ·exact shape_15 w
  ·exact shape_16 w
  ·exact shape_17 w
  ·exact shape_18 w
  ·exact shape_19 w
  ·exact shape_20 w
  ·exact shape_21 w
  ·exact shape_22 w
  ·exact shape_23 w
end Go.Proofs.YtlpfpehegddcfaaGreatDoor
