import Derived.Test.YtlpfpehegddcfaaGreatDoorMn8
import Derived.Test.YtlpfpehegddcfaaGreatDoorMn13
import Derived.Shelf.SlSortCmp.NoneTotal
namespace Go.Proofs.YtlpfpehegddcfaaGreatDoor
set_option maxRecDepth 100000
set_option maxHeartbeats 64000000
open Go.RowKit
open Go.Shelf Go.RowKit Go.Lib Go.Sort
def TyC (K:Nat→Prop) (w0:World):Type:={p:Ty×List Value // RepT K w0 p.1 p.2}
instance (K:Nat→Prop) (w0:World):Inhabited (TyC K w0):=⟨⟨(tyK 1,_),rep_never K w0⟩⟩
def encC {K:Nat→Prop} {w0:World} (x:TyC K w0):List Value:=x.1.2
def cfC {K:Nat→Prop} {w0:World} (x y:TyC K w0):Int:=ordT x.1.1 y.1.1
theorem encC_len {K:Nat→Prop} {w0:World} (x:TyC K w0):(encC x).length=6:=x.2.six
theorem encC_one {K:Nat→Prop} {w0:World} (x:TyC K w0):∀ v∈encC x,v.oneCell'=true:=by
 obtain⟨⟨⟨k,s,n,ps,fs,vs⟩,cs⟩,h⟩:=x
 obtain⟨A,c,A',c',A'',c'',rfl,_⟩:=h.inv
 intro v hv
 simp only[encC,cells6T,List.mem_cons,List.not_mem_nil,or_false] at hv
 rcases hv with rfl | rfl | rfl | rfl | rfl | rfl <;> rfl
theorem ltC_t {K:Nat→Prop} {w0:World} {x y:TyC K w0}:ltOf cfC x y=true↔ordT x.1.1 y.1.1<0:=by
 unfold ltOf
 exact decide_eq_true_iff
theorem ltC_f {K:Nat→Prop} {w0:World} {x y:TyC K w0}:ltOf cfC x y=false↔0≤ordT x.1.1 y.1.1:=by
 unfold ltOf
 exact decide_eq_false_iff_not.trans Int.not_lt
theorem lt_trans {a b c:Ty} (h1:ordT a b<0) (h2:ordT b c<0):ordT a c<0:=by
 rcases ordT_bd a b with e | e | e
 ·rcases ordT_bd b c with e' | e' | e'
  ·rw[ordT_trans e e'];decide
  ·omega
  ·omega
 ·omega
 ·omega
theorem swoC (K:Nat→Prop) (w0:World):SWO (ltOf (cfC (K:=K) (w0:=w0))) where
 irrefl x:=ltC_f.2 (by rw[ordT_zero.2 rfl];decide)
 trans x y z h1 h2:=ltC_t.2 (lt_trans (ltC_t.1 h1) (ltC_t.1 h2))
 ntrans x y z h1 h2:=ltC_f.2 (no_down (ltC_f.1 h1) (ltC_f.1 h2))
theorem cmpC {K:Nat→Prop} {w0 w:World} {g size:Nat} (hb:Below w0.heap.size w0 w) (hg:w0.heap.size≤g):CmpLays Tryz.prog 101 #[] (encC (K:=K) (w0:=w0)) 6 cfC g 0 size w:=by
 intro m os dk _ x y
 have hk:∀ b o v,K b→w0.cell? ⟨b,o,none⟩=some v→(sortWorldK (encC (K:=K) (w0:=w0)) 6 w g 0 m dk os).cell? ⟨b,o,none⟩=some v:=fun b o v _ hc=>by
  have hlt:b<w0.heap.size:=World.block_lt_of_cell? _ _ hc
  rw[cell?_sortWorldK_other _ _ _ _ _ _ _ _ ⟨b,o,none⟩ (by show b≠g;omega) (Nat.lt_of_lt_of_le hlt hb.size)]
  exact cell_stays hb hc
 exact Order_any (RepT.keep (fun _ h=>h) hk _ _ x.2) (RepT.keep (fun _ h=>h) hk _ _ y.2)
theorem heap_sort {α:Type} [Inhabited α] {enc:α→List Value} {w:World} {g m:Nat} {dk:Array α} {os:Array Obj}:(sortWorldK enc 6 w g 0 m dk os).heap=(w.heap.modify g (onCells (putCells id 0 (flatK enc 6 dk))))++os:=rfl
theorem blk_sort {α:Type} [Inhabited α] {enc:α→List Value} {w:World} {g m:Nat} {dk:Array α} {os:Array Obj} {cur:Array Value} {T:TypeId} (hb:w.heap[g]?=some (.cells cur T (0,0))):∃ cur',(sortWorldK enc 6 w g 0 m dk os).heap[g]?=some (.cells cur' T (0,0))∧cur'.size=cur.size:=by
 have hlt:=(Array.getElem?_eq_some_iff.1 hb).1
 refine⟨putCells id 0 (flatK enc 6 dk) cur,?_,by simp[putCells]⟩
 rw[heap_sort,Array.getElem?_append_left (by simpa using hlt),Array.getElem?_modify,if_pos rfl,hb]
 rfl
theorem sort_below {α:Type} [Inhabited α] {enc:α→List Value} {w0 w:World} {g m:Nat} {dk:Array α} {os:Array Obj} (hb:RowKit.Below w0.heap.size w0 w) (hg:w0.heap.size≤g):RowKit.Below w0.heap.size w0 (sortWorldK enc 6 w g 0 m dk os):=by
 have h1:=hb.size
 refine⟨hb.os,hb.tape,hb.output,?_,fun k hk=>?_⟩
 ·rw[heap_sort]
  simp
  omega
 ·rw[heap_sort,Array.getElem?_append_left (by simp;omega),Array.getElem?_modify,if_neg (by omega)]
  exact hb.block k hk
theorem formed_val {K:Nat→Prop} {w:World} {t:Ty} {cs:List Value} {r:Bool} (h:RepT K w t cs) (hf:FormIs t r) :
  Calls Tryz.prog 35 #[.agg cs.toArray] w fun e w'=>e=.returned (.bool (decide (cntT t≤4096) && r))∧Below w.heap.size w w':=by
 have hb1:Below w.heap.size w (w.alloc (.cells cs.toArray 26)):=(Below.refl _ _).alloc (Nat.le_refl _) _
 have KN:=Hd (nodes_any (h.later hb1))
 have KF:=Hd fun wx hx=>hf K wx w.heap.size 0 ((AtT.box 26 h).later hx)
 have HB1:=Hd hb1
 have HC:Hid (decide (((capN (cntT t):Nat):Int)≤4096)=decide (cntT t≤4096)):=Hd (by unfold capN;congr 1;rw[eq_iff_iff];omega)
 obtain⟨k,s,n,ps,fs,vs⟩:=t
 obtain⟨A,c,A',c',A'',c'',rfl,_⟩:=h.inv
 generalize capN (cntT (.mk k s n ps fs vs))=q at KN HC
 generalize decide (cntT (.mk k s n ps fs vs)≤4096)=d at HC ⊢
 simp only[cells6T] at KN KF HB1 ⊢
 clear h hf hb1
 cases d with
 | false=>
  have hq:¬ ((q:Int)≤4096):=by have h:=HC.out;simpa using h
  have hq2:¬ (q≤4096):=by omega
  go_enter Tryz.func35,Tryz.ntmps35
  go_wp2_with fail
  refine KN.out.mono ?_
  rintro e w1 ⟨rfl,hb1⟩
  have HB2:=Hd (below_then HB1.out hb1)
  clear hb1 KN
  go_wp2_with fail
  go_ret
  exact⟨rfl,HB2.out⟩
 | true=>
  have hq:((q:Int)≤4096):=by have h:=HC.out;simpa using h
  have hq2:(q≤4096):=by omega
  go_enter Tryz.func35,Tryz.ntmps35
  go_wp2_with fail
  refine KN.out.mono ?_
  rintro e w1 ⟨rfl,hb1⟩
  have HB2:=Hd (below_then HB1.out hb1)
  have KF2:=Hd (KF.out _ hb1)
  clear hb1 KN KF
  go_wp2_with fail
  refine KF2.out.mono ?_
  rintro e w2 ⟨rfl,hb2⟩
  have HB3:=Hd (below_then HB2.out hb2)
  clear hb2
  go_wp2_with fail
  go_ret
  exact⟨rfl,HB3.out⟩
theorem self_15 (t:ByteArray) (n:Int) (ps:List Ty) (fs:FsT) (vs:VsT):SelfIs (.mk 15 t n ps fs vs) (isUB ps):=by
 intro K w b o h
 obtain⟨A,c,_,_,_,_,⟨x0,-,-,x3,-,-⟩,-,hP,-⟩:=h.six
 have KU:=Hd (isU_any hP)
 clear h hP
 generalize isUB ps=r at KU ⊢
 go_enter Tryz.func96,Tryz.ntmps96
 go_wp2_with fail
 refine KU.out.mono ?_
 rintro e w2 ⟨rfl,hb2⟩
 have HB2:=Hd hb2
 clear hb2
 go_wp2_with fail
 go_ret
 exact⟨rfl,HB2.out⟩
def seenF (vs:VsT) (i:Nat):ByteArray→Option Unit:=fun s=>if ((vs.take i).any fun x=>decide (x.1=s))=true then some () else none
theorem seenF_next {vs:VsT} {i:Nat} (h:i<vs.length):updF (seenF vs i) vs[i].1 ()=seenF vs (i+1):=by
 funext s
 unfold updF seenF
 rw[List.take_succ_eq_append_getElem h,List.any_append]
 by_cases e:vs[i].1=s
 ·simp[e]
 ·have e2:decide (vs[i].1=s)=false:=decide_eq_false e
  rw[if_neg e]
  simp only[List.any_cons,List.any_nil,e2,Bool.or_false]
theorem seenF_some {vs:VsT} {i:Nat} (s:ByteArray):(seenF vs i s).isSome=(vs.take i).any fun x=>decide (x.1=s):=by
 unfold seenF
 split
 ·rename_i h;rw[h];rfl
 ·rename_i h;rw[Bool.not_eq_true] at h;rw[h];rfl
theorem okU_more {p:Nat→Bool} {i:Nat} (h:∀ j,j<i→p j=true) (h2:p i=true):∀ j,j<i+1→p j=true:=fun j hj=>by
 rcases Nat.lt_or_ge j i with h1 | h1
 ·exact h j h1
 ·rw[show j=i from by omega];exact h2
structure VaR (w wr:World) (vs:VsT) (fv:Ty→Bool) (i:Nat):Prop where
 le:i≤vs.length
 ok:∀ j,j<i→okV (varsT vs fv) j=true
 map:MapIs setMK wr w.heap.size i (seenF vs i)
 below:Below w.heap.size w wr
theorem formedVars_any {K:Nat→Prop} {w:World} {vs:VsT} {A:Option Addr} {c:Nat} {fv:Ty→Bool} (hV:ListV K w vs A c) (hf:∀ v∈vs,∀ b∈v.2,FormIs b (fv b)) :
  Calls Tryz.prog 135 #[.slice A vs.length c] w fun e w'=>e=.returned (.bool (varsB (varsT vs fv)))∧Below w.heap.size w w':=by
 have HV:=Hd hV
 have HF:=Hd hf
 have hlv:vs.length≤1000000000000000:=by obtain⟨_,_,hr,_⟩:=hV;exact hr.big
 have HST:Hid (VaR w (w.alloc (.map #[] 0)) vs fv 0):=Hd ⟨Nat.zero_le _,fun j hj=>absurd hj (by omega),by
  have h:=MapIs.new setMK w
  have e:seenF vs 0=fun _=>none:=by funext s;simp[seenF]
  rw[e];exact h,(Below.refl _ _).alloc (Nat.le_refl _) _⟩
 have hmm:=@run_makeMap Tryz.prog
 clear hV hf
 go_enter Tryz.func135,Tryz.ntmps135
 go_wp2_with fail
 clear hmm
 go_loopw [11] (fun v wr=>∃ i:Nat,v=.int .i64 (i:Int)∧VaR w wr vs fv i) (fun v _=>vs.length - (intOf v).toNat)
 case atStart=>exact⟨0,rfl,HST.out⟩
 case round=>
  obtain⟨i,rfl,hr⟩:=hrel
  have HR:=Hd hr
  have hle:=hr.le
  by_cases hlt:i<vs.length
  ·have t1:decide ((i:Int)<(vs.length:Int))=true:=by simp;omega
   have wr2:wrap64 ((i:Int)+1)=((i+1:Nat):Int):=wrap_one (by omega)
   have HM:=Hd (measI hlt)
   obtain⟨b,o,hA,_,hat⟩:=HV.out.at (by omega)
   subst hA
   obtain⟨B,d,hc0,hc1,hsz,hLB⟩:=hat i hlt
   have hok:=okV_at (fv:=fv) hlt
   have hnx:=seenF_next hlt
   have hFb:∀ b∈vs[i].2,FormIs b (fv b):=HF.out _ (List.getElem_mem hlt)
   have hsm:=seenF_some (vs:=vs) (i:=i) vs[i].1
   generalize hnm:vs[i].1=nm at hc0 hok hnx hsz hsm
   generalize hl:vs[i].2=l at hc1 hLB hok hFb
   have hcw0:=cell_stays (w:=w) (w':=wr) hr.below hc0
   have hcw1:=cell_stays (w:=w) (w':=wr) hr.below hc1
   have hbx:Below wr.heap.size wr (wr.alloc (.cells #[.string nm,.slice B l.length d] 62)):=(Below.refl _ _).alloc (Nat.le_refl _) _
   have hmx:nm.size≤maxLen:=by unfold maxLen;omega
   have lk:(Instr.lookup 186 (.map (some w.heap.size)) (.string nm) true).run Tryz.prog (wr.alloc (.cells #[.string nm,.slice B l.length d] 62))=.ok (.tuple #[.agg #[],.bool ((vs.take i).any fun x=>decide (x.1=nm))]) (wr.alloc (.cells #[.string nm,.slice B l.length d] 62)):=by
    rw[←hsm];exact (hr.map.later hbx).look2 nm hmx
   generalize hseen:((vs.take i).any fun x=>decide (x.1=nm))=seen at lk hok
   clear hat hc0 hc1 hnm hl hsm hseen
   cases seen with
   | true=>
    have HNO:Hid (varsB (varsT vs fv)=false):=Hd (allB_no (by rw[varsT_len];exact hlt) (by rw[hok];simp))
    have HB9:=Hd hr.below
    clear hr hle hok hnx
    go_wp2_with fail
    go_ret
    exact⟨by rw[HNO.out];rfl,(HB9.out.alloc HB9.out.size _).alloc (by have:=HB9.out.size;simp;omega) _⟩
   | false=>
    have HSZ:Hid (wr.heap.size≤((wr.alloc (.cells #[.string nm,.slice B l.length d] 62)).alloc (.cells #[] 193)).heap.size):=Hd (by simp;omega)
    have hbw2:Below wr.heap.size wr ((wr.alloc (.cells #[.string nm,.slice B l.length d] 62)).alloc (.cells #[] 193)):=hbx.alloc (by simp) _
    have HSZ2:Hid (w.heap.size≤((wr.alloc (.cells #[.string nm,.slice B l.length d] 62)).alloc (.cells #[] 193)).heap.size):=Hd (by have:=hr.below.size;have:=hbw2.size;omega)
    have HBW:=Hd (hr.below.trans (hbw2.mono hr.below.size))
    have HMP:=Hd (hr.map.later hbw2)
    have hbk:((wr.alloc (.cells #[.string nm,.slice B l.length d] 62)).alloc (.cells #[] 193)).heap[wr.heap.size]?=some (.cells #[.string nm,.slice B l.length d] 62 (0,0)):=by
     rw[((Below.refl (wr.alloc (.cells #[.string nm,.slice B l.length d] 62)).heap.size _).alloc (Nat.le_refl _) (.cells #[] 193)).block _ (by simp)]
     exact heap_alloc_new wr _
    have HX0:Hid (((wr.alloc (.cells #[.string nm,.slice B l.length d] 62)).alloc (.cells #[] 193)).cell? ⟨wr.heap.size,0,none⟩=some (.string nm)):=Hd (cell_of_row _ _ 0 _ _ _ hbk)
    have HX1:Hid (((wr.alloc (.cells #[.string nm,.slice B l.length d] 62)).alloc (.cells #[] 193)).cell? ⟨wr.heap.size,1,none⟩=some (.slice B l.length d)):=Hd (cell_of_row _ _ 1 _ _ _ hbk)
    have KN:=Hd (name_prog nm ((wr.alloc (.cells #[.string nm,.slice B l.length d] 62)).alloc (.cells #[] 193)) hsz)
    have HGL:Hid (w.heap.size<wr.heap.size):=Hd hr.map.lt
    have HLT:Hid (i<maxLen):=Hd (by unfold maxLen;omega)
    have HMX:=Hd hmx
    have HLE:Hid (i+1≤vs.length):=Hd hlt
    clear hbw2 hbk
    cases hq:nameT nm with
    | false=>
     rw[hq] at KN
     have HNO:Hid (varsB (varsT vs fv)=false):=Hd (allB_no (by rw[varsT_len];exact hlt) (by rw[hok];simp[hq]))
     clear hok hnx hr hle
     go_wp2_with fail
     refine KN.out.mono ?_
     rintro e w3 ⟨rfl,hb3⟩
     have HB3:=Hd (HBW.out.trans (hb3.mono HSZ2.out))
     clear hb3
     go_wp2_with fail
     go_ret
     exact⟨by rw[HNO.out];rfl,HB3.out⟩
    | true=>
     rw[hq] at KN
     match l,hLB,hFb with
     | [],hLB,hFb=>
      clear hLB hFb
      simp only[List.length_nil] at *
      clear hr hle
      go_wp2_with fail
      refine KN.out.mono ?_
      rintro e w3 ⟨rfl,hb3⟩
      have HB3:=Hd (HBW.out.trans (hb3.mono HSZ2.out))
      have y0:=cell_stays hb3 HX0.out
      have y1:=cell_stays hb3 HX1.out
      obtain⟨w4,hup,hm4,hg4⟩:=(HMP.out.later hb3).putL HLT.out nm HMX.out ()
      have hup2:(Instr.mapUpdate 186 (.map (some w.heap.size)) (.string nm) (.agg #[])).run Tryz.prog w3=.ok () w4:=hup
      have hblk:w4.heap[wr.heap.size]?=w3.heap[wr.heap.size]?:=hg4.block _ (World.block_lt_of_cell? _ _ y0) (by have:=HGL.out;simp only[ne_eq,Option.some.injEq];omega)
      have z0:=(World.cell?_of_block (a:=⟨wr.heap.size,0,none⟩) hblk).trans y0
      have z1:=(World.cell?_of_block (a:=⟨wr.heap.size,1,none⟩) hblk).trans y1
      have hB4:Below w.heap.size w w4:=HB3.out.grown hg4 HB3.out.size (fun k hk=>by simp only[Option.some.injEq] at hk;omega)
      rw[hnx] at hm4
      have HM4:=Hd hm4
      have HB4:=Hd hB4
      clear hb3 hup hm4 hg4 hblk hB4 hnx
      have HOK:Hid (okV (varsT vs fv) i=true):=Hd (by rw[hok];simp[hq])
      clear hok
      go_wp2_with fail
      refine⟨⟨i+1,by first | rfl | rw[wr2],HLE.out,okU_more HR.out.ok HOK.out,HM4.out,HB4.out⟩,?_⟩
      first | exact HM.out | (rw[wr2];exact HM.out)
     | [x],hLB,hFb=>
      obtain⟨bb,bo,rfl,-,hel0⟩:=hLB.at (by simp)
      have hel:AtT K w x bb bo:=by have h:=hel0 0 (by simp);simpa using h
      have hfx:=hFb x (List.mem_singleton.2 rfl)
      clear hLB hFb hel0
      simp only[List.length_cons,List.length_nil,Nat.zero_add] at *
      clear hr hle
      go_wp2_with fail
      refine KN.out.mono ?_
      rintro e w3 ⟨rfl,hb3⟩
      have HB3:=Hd (HBW.out.trans (hb3.mono HSZ2.out))
      have y0:=cell_stays hb3 HX0.out
      have y1:=cell_stays hb3 HX1.out
      obtain⟨w4,hup,hm4,hg4⟩:=(HMP.out.later hb3).putL HLT.out nm HMX.out ()
      have hup2:(Instr.mapUpdate 186 (.map (some w.heap.size)) (.string nm) (.agg #[])).run Tryz.prog w3=.ok () w4:=hup
      have hblk:w4.heap[wr.heap.size]?=w3.heap[wr.heap.size]?:=hg4.block _ (World.block_lt_of_cell? _ _ y0) (by have:=HGL.out;simp only[ne_eq,Option.some.injEq];omega)
      have z0:=(World.cell?_of_block (a:=⟨wr.heap.size,0,none⟩) hblk).trans y0
      have z1:=(World.cell?_of_block (a:=⟨wr.heap.size,1,none⟩) hblk).trans y1
      have hB4:Below w.heap.size w w4:=HB3.out.grown hg4 HB3.out.size (fun k hk=>by simp only[Option.some.injEq] at hk;omega)
      rw[hnx] at hm4
      have HM4:=Hd hm4
      have HB4:=Hd hB4
      clear hb3 hup hm4 hg4 hblk hB4 hnx
      have KF:=Hd (hfx K w4 bb bo (hel.later HB4.out))
      have HOKE:Hid (okV (varsT vs fv) i=fv x):=Hd (by rw[hok];simp[hq])
      clear hok hel hfx
      generalize fv x=r at KF HOKE
      go_wp2_with fail
      refine KF.out.mono ?_
      rintro e w5 ⟨rfl,hb5⟩
      have HB5:=Hd (below_then HB4.out hb5)
      have HM5:=Hd (HM4.out.later hb5)
      clear hb5
      cases r with
      | false=>
       have HNO:Hid (varsB (varsT vs fv)=false):=Hd (allB_no (by rw[varsT_len];exact HLE.out) HOKE.out)
       go_wp2_with fail
       go_ret
       exact⟨by rw[HNO.out];rfl,HB5.out⟩
      | true=>
       go_wp2_with fail
       refine⟨⟨i+1,by first | rfl | rw[wr2],HLE.out,okU_more HR.out.ok HOKE.out,HM5.out,HB5.out⟩,?_⟩
       first | exact HM.out | (rw[wr2];exact HM.out)
     | x :: y :: l,hLB,hFb=>
      clear hLB hFb
      have e2:(x :: y :: l).length=l.length+2:=rfl
      have t3:1<l.length+2:=by omega
      have t3b:decide ((1:Int)<((l.length+2:Nat):Int))=true:=by simp;omega
      simp only[List.length_cons] at *
      have HNO:Hid (varsB (varsT vs fv)=false):=Hd (allB_no (by rw[varsT_len];exact hlt) (by rw[hok];simp[hq]))
      clear hok hnx hr hle
      go_wp2_with fail
      refine KN.out.mono ?_
      rintro e w3 ⟨rfl,hb3⟩
      have HB3:=Hd (HBW.out.trans (hb3.mono HSZ2.out))
      have y1:=cell_stays hb3 HX1.out
      clear hb3
      go_wp2_with fail
      go_ret
      exact⟨by rw[HNO.out];rfl,HB3.out⟩
  ·have t1:decide ((i:Int)<(vs.length:Int))=false:=by simp;omega
   have HYES:Hid (varsB (varsT vs fv)=true):=Hd (range_all.2 fun j hj=>hr.ok j (by rw[varsT_len] at hj;omega))
   have HB9:=Hd hr.below
   clear hr hle HR
   go_wp2_with fail
   go_ret
   exact⟨by rw[HYES.out];rfl,HB9.out⟩
def isComp (k:Int):Bool:=k == 11 || k == 12 || k == 17 || k == 13 || k == 14
def gathT (p t:Ty):List (ByteArray×Ty):=
 if infT p=false then []
 else if p.k=22 then [(p.t,t)]
 else if p.k=15 then (p.ps.attach.map fun ⟨q,_⟩=>gathT q t).flatten
 else if isComp p.k=false then []
 else if t.k=15 then (t.ps.attach.map fun ⟨q,_⟩=>gathT p q).flatten
 else if p.k=11∧t.k=12 then (p.ps.attach.map fun ⟨q,_⟩=>gathT q (unionT t.ps)).headD []
 else if p.k≠t.k then []
 else if p.k=11 then (List.zipWith (fun (q:{x // x∈p.ps}) u=>gathT q.1 u) p.ps.attach t.ps).headD []
 else if p.k=12∨(p.k=17∧p.t=t.t) then (if t.ps.length=p.ps.length then (List.zipWith (fun (q:{x // x∈p.ps}) u=>gathT q.1 u) p.ps.attach t.ps).flatten else [])
 else if p.k=13∧t.vs=[] then (List.zipWith (fun (q:{x // x∈p.ps}) u=>gathT q.1 u) p.ps.attach.dropLast t.ps.dropLast).flatten++(match p.ps.attach.getLast?,t.ps.getLast? with
  | some q,some u=>gathT q.1 u
  | _,_=>[])
 else if p.k=14 then (p.fs.attach.map fun x=>((t.fs.find? fun g=>decide (g.1=x.1.1)).map fun g=>gathT x.1.2.2 (heldT g)).getD []).flatten
 else []
termination_by (SizeOf.sizeOf p,SizeOf.sizeOf t)
decreasing_by
 all_goals first
  | exact Prod.Lex.left _ _ (lt_ps ‹_›)
  | exact Prod.Lex.right _ (lt_ps ‹_›)
  | exact Prod.Lex.left _ _ (lt_ps q.2)
  | skip
 ·cases p;exact Prod.Lex.left _ _ (ty_lt_f x.2)
theorem gathT_eq (p t:Ty):gathT p t =
 if infT p=false then []
 else if p.k=22 then [(p.t,t)]
 else if p.k=15 then (p.ps.map fun q=>gathT q t).flatten
 else if isComp p.k=false then []
 else if t.k=15 then (t.ps.map fun q=>gathT p q).flatten
 else if p.k=11∧t.k=12 then (p.ps.map fun q=>gathT q (unionT t.ps)).headD []
 else if p.k≠t.k then []
 else if p.k=11 then (List.zipWith gathT p.ps t.ps).headD []
 else if p.k=12∨(p.k=17∧p.t=t.t) then (if t.ps.length=p.ps.length then (List.zipWith gathT p.ps t.ps).flatten else [])
 else if p.k=13∧t.vs=[] then (List.zipWith gathT p.ps.dropLast t.ps.dropLast).flatten++(match p.ps.getLast?,t.ps.getLast? with
  | some q,some u=>gathT q u
  | _,_=>[])
 else if p.k=14 then (p.fs.map fun f=>((t.fs.find? fun g=>decide (g.1=f.1)).map fun g=>gathT f.2.2 (heldT g)).getD []).flatten
 else []:=by
 have hz:∀ l:List Ty,List.zipWith (fun (q:{x // x∈p.ps}) u=>gathT q.1 u) p.ps.attach l=List.zipWith gathT p.ps l:=fun l=>by
  conv=>rhs;rw[←List.attach_map_subtype_val p.ps,List.zipWith_map_left]
 have hz2:∀ l:List Ty,List.zipWith (fun (q:{x // x∈p.ps}) u=>gathT q.1 u) p.ps.attach.dropLast l=List.zipWith gathT p.ps.dropLast l:=fun l=>by
  conv=>rhs;rw[←List.attach_map_subtype_val p.ps,←List.map_dropLast,List.zipWith_map_left]
 have hl:p.ps.attach.getLast?.map (·.1)=p.ps.getLast?:=by
  conv=>rhs;rw[←List.attach_map_subtype_val p.ps,List.getLast?_map]
 have hf:(p.fs.attach.map fun x=>((t.fs.find? fun g=>decide (g.1=x.1.1)).map fun g=>gathT x.1.2.2 (heldT g)).getD [])=p.fs.map fun f=>((t.fs.find? fun g=>decide (g.1=f.1)).map fun g=>gathT f.2.2 (heldT g)).getD []:=by
  conv=>rhs;rw[←List.attach_map_subtype_val p.fs,List.map_map]
  rfl
 rw[gathT,hf]
 simp only[List.map_attach_eq_pmap,List.pmap_eq_map,hz,hz2]
 rw[←hl]
 cases p.ps.attach.getLast? <;> cases t.ps.getLast? <;> simp
def gatN (s:ByteArray) (l:List (ByteArray×Ty)):List Ty:=(l.filter fun f=>decide (f.1=s)).map (·.2)
theorem gatN_app (s:ByteArray) (l m:List (ByteArray×Ty)):gatN s (l++m)=gatN s l++gatN s m:=by unfold gatN;rw[List.filter_append,List.map_append]
theorem gatN_nil (s:ByteArray):gatN s []=[]:=rfl
theorem gatN_one (s:ByteArray) (t:Ty) (x:ByteArray):gatN x [(s,t)]=if s=x then [t] else []:=by
 unfold gatN
 by_cases h:s=x <;> simp[h]
open Go.Shelf Go.RowKit Go.Lib Go.Sort
theorem isAggTy:∀ w,(isAgg (sortTy_ren.t 24)).run Tryz.prog w=.ok true w:=fun _=>by kernel_rfl
theorem sizeOfTy:∀ w,(Go.sizeOf (sortTy_ren.t 24)).run Tryz.prog w=.ok 6 w:=fun _=>by kernel_rfl
theorem enterTy:∀ args w,(callFunc 101 args).run Tryz.prog w=.ok (.enter 101 args) w:=enters_of Tryz.func101 (by kernel_rfl) rfl
theorem sort_any:SortP:=by
 intro K w0 w g c l h hb hg hbd
 classical
 have hex:∀ i:Fin l.length,∃ x:TyC K w0,x.1.1=l[i]∧∀ (j:Nat) (u:Value),(encC x)[j]?=some u→w.cell? ⟨g,i.1*6+j,none⟩=some u:=fun i=>by
  obtain⟨cs,h1,h2⟩:=h.reps i.1 l[i] (List.getElem?_eq_getElem i.2)
  exact⟨⟨(l[i],cs),h1⟩,rfl,h2⟩
 obtain⟨f,hf⟩:∃ f:Fin l.length→TyC K w0,∀ i,(f i).1.1=l[i]∧∀ (j:Nat) (u:Value),(encC (f i))[j]?=some u→w.cell? ⟨g,i.1*6+j,none⟩=some u:=⟨fun i=>(hex i).choose,fun i=>(hex i).choose_spec⟩
 obtain⟨d,hd⟩:∃ d:Array (TyC K w0),d=Array.ofFn f:=⟨_,rfl⟩
 have hds:d.size=l.length:=by rw[hd];simp
 have hdi:∀ i (hi:i<l.length),d[i]! = f ⟨i,hi⟩:=fun i hi=>by rw[getElem!_pos d i (by omega)];simp[hd]
 have hdl:d.toList.map (fun x=>x.1.1)=l:=by
  refine List.ext_getElem (by simpa using hds) fun i h1 h2=>?_
  rw[List.getElem_map,Array.getElem_toList]
  have:=hdi i h2
  rw[getElem!_pos d i (by omega)] at this
  rw[this,(hf ⟨i,h2⟩).1]
  rfl
 have hH:HoldsK encC 6 w g 0 d:=by
  intro t ht
  have ht':t<d.size*6:=by simpa using ht
  have hi:t / 6<l.length:=by omega
  have hj:t % 6<6:=by omega
  have hlen:=encC_len (f ⟨t / 6,hi⟩)
  refine⟨?_,(h.there (j:=0+t) (by have:=h.le;omega)).2⟩
  rw[get_flatK _ _ _ _ ht',hdi _ hi]
  have h3:=(hf ⟨t / 6,hi⟩).2 (t % 6) _ (List.getElem?_eq_getElem (by omega))
  rw[show (⟨t / 6,hi⟩:Fin l.length).1*6+t % 6=0+t from by show t / 6*6+t % 6=_;omega] at h3
  rw[h3,getElem!_pos _ _ (by omega)]
  rfl
 have main:=AnyQ.slices_SortFunc sortTy 6 isAggTy sizeOfTy encC encC_len encC_one cfC (swoC K w0) 101 #[] g 0 c d w enterTy (cmpC hb hg) hH h.lt (by omega)
 rw[hds] at main
 refine main.mono ?_
 rintro e w' ⟨rfl,d',n,os,hp,hs,rfl⟩
 have hsz:d'.size=l.length:=hp.1.trans hds
 have hperm:d'.toList.Perm d.toList:=by
  have h3:=hp.2.2
  have e1:(d'.extract 0 l.length).toList=d'.toList:=by rw[←hsz];simp
  have e2:(d.extract 0 l.length).toList=d.toList:=by rw[←hds];simp
  rwa [e1,e2] at h3
 refine⟨rfl,sort_below hb hg,d'.toList.map (fun x=>x.1.1),?_,?_,by simpa using hsz,?_⟩
 ·refine List.pairwise_map.2 (List.pairwise_iff_getElem.2 fun i j hi hj hij=>?_)
  have hi':i<d'.size:=by simpa using hi
  have hj':j<d'.size:=by simpa using hj
  have h4:=ltC_f.1 (hs i j (Nat.zero_le _) hij (by omega))
  rw[getElem!_pos d' i hi',getElem!_pos d' j hj',ordT_flip] at h4
  simp only[Array.getElem_toList]
  omega
 ·intro x
  rw[←hdl]
  exact (hperm.map _).mem_iff
 ·have hH':=holdsK_sortWorldK (encC (K:=K) (w0:=w0)) 6 w g 0 n d d' os h.lt hH (hsz.trans hds.symm)
  obtain⟨cur,hc1,hc2⟩:=h.blk
  obtain⟨cur',hc3,hc4⟩:=blk_sort (enc:=encC (K:=K) (w0:=w0)) (m:=n) (dk:=d') (os:=os) hc1
  refine⟨by rw[List.length_map,Array.length_toList,hsz];exact h.le,h.mx,⟨cur',hc3,hc4.trans hc2⟩,fun i t hi=>?_⟩
  obtain⟨hlt,rfl⟩:=List.getElem?_eq_some_iff.1 hi
  have hlt':i<d'.size:=by simpa using hlt
  refine⟨encC d'[i],by rw[List.getElem_map,Array.getElem_toList];exact d'[i].2,fun j u hj=>?_⟩
  obtain⟨hj1,hj2⟩:=List.getElem?_eq_some_iff.1 hj
  have h6:=encC_len d'[i]
  have h7:=(hH'.cell (i:=i) (c:=j) hlt' (by omega)).1
  rw[Nat.zero_add,getElem!_pos d' i hlt',getElem!_pos _ j hj1,hj2] at h7
  exact h7
theorem eqf_any {K K':Nat→Prop} {w:World} {t t':Ty} {cs cs':List Value} (h:RepT K w t cs) (h':RepT K' w t' cs') :
  Calls Tryz.prog 103 #[.agg cs.toArray,.agg cs'.toArray] w fun e w'=>e=.returned (.bool (ordT t t' == 0))∧Gw w w':=by
 have hb1:Gw w (w.alloc (.cells cs.toArray 26)):=(Gw.refl w).alloc _
 have hb2:Gw w ((w.alloc (.cells cs.toArray 26)).alloc (.cells cs'.toArray 26)):=hb1.alloc _
 have a1:AtT K ((w.alloc (.cells cs.toArray 26)).alloc (.cells cs'.toArray 26)) t w.heap.size 0:=(AtT.box _ h).later ((Below.refl _ _).alloc (Nat.le_refl _) _)
 have a2:AtT K' ((w.alloc (.cells cs.toArray 26)).alloc (.cells cs'.toArray 26)) t' (w.heap.size+1) 0:=by
  have:=AtT.box (w:=w.alloc (.cells cs.toArray 26)) 26 (h'.later hb1.below)
  rw[World.size_alloc] at this
  exact this
 have KO:=Hd ((order_any t K K' t').ok _ _ _ _ _ a1 a2)
 have HB:=Hd hb2
 obtain⟨k,s,n,ps,fs,vs⟩:=t
 obtain⟨k',s',n',ps',fs',vs'⟩:=t'
 obtain⟨A,c,A',c',A'',c'',rfl,_⟩:=h.inv
 obtain⟨B,d,B',d',B'',d'',rfl,_⟩:=h'.inv
 clear a1 a2 hb1 hb2 h h'
 generalize ordT (.mk k s n ps fs vs) (.mk k' s' n' ps' fs' vs')=r at KO ⊢
 simp only[cells6T] at KO HB ⊢
 go_enter Tryz.func103,Tryz.ntmps103
 go_wp2_with fail
 refine KO.out.mono ?_
 rintro e w1 ⟨rfl,hb⟩
 have HB1:=Hd (HB.out.trans hb)
 clear hb
 go_wp2_with fail
 go_ret
 exact⟨rfl,HB1.out⟩
theorem comp_nil:CompN:=by
 intro w
 go_enter Tryz.func102,Tryz.ntmps102
 go_wp2_with fail
 go_ret
 exact⟨rfl,Below.refl _ _⟩
theorem comp_short {K:Nat→Prop} {w0 w:World} {g c:Nat} {s:List Ty} (h:InT K w0 w g c s) (hb:Below w0.heap.size w0 w) (hs:s.length<2) :
  Calls Tryz.prog 102 #[.slice (some ⟨g,0,none⟩) s.length c,.func (.func 103) #[] #[]] w fun e w'=>e=.returned (.slice (some ⟨g,0,none⟩) (dedupT s).length c)∧Below w0.heap.size w0 w'∧InT K w0 w' g c (dedupT s):=by
 have hd:dedupT s=s:=by
  match s,hs with
  | [],_=>rfl
  | [_],_=>rfl
  | _ :: _ :: _,hs=>exact absurd hs (by simp)
 rw[hd]
 have H:=Hd (And.intro h hb)
 clear h hb hd
 have t2:decide ((s.length:Int)<2)=true:=by simp;omega
 go_enter Tryz.func102,Tryz.ntmps102
 go_wp2_with fail
 go_ret
 exact⟨rfl,H.out.2,H.out.1⟩
theorem dedup_cons2 (a b:Ty) (l:List Ty):dedupT (a :: b :: l)=if ordT a b=0 then dedupT (b :: l) else a :: dedupT (b :: l):=by rw[dedupT]
theorem dedup_snoc (a b:Ty):∀ l:List Ty,dedupT (l++[a,b])=if ordT a b=0 then dedupT (l++[a]) else dedupT (l++[a])++[b]
 | []=>by
  simp only[List.nil_append]
  rw[dedup_cons2]
  by_cases h:ordT a b=0
  ·rw[if_pos h,if_pos h,ordT_zero.1 h]
  ·rw[if_neg h,if_neg h];rfl
 | [x]=>by
  show dedupT (x :: a :: [b])=if ordT a b=0 then dedupT [x,a] else dedupT [x,a]++[b]
  have ih:=dedup_snoc a b []
  simp only[List.nil_append] at ih
  rw[dedup_cons2,ih,dedup_cons2]
  by_cases h1:ordT a b=0
  ·simp only[if_pos h1]
  ·simp only[if_neg h1]
   split <;> rfl
 | x :: y :: l=>by
  have ih:=dedup_snoc a b (y :: l)
  show dedupT (x :: y :: (l++[a,b]))=if ordT a b=0 then dedupT (x :: y :: (l++[a])) else dedupT (x :: y :: (l++[a]))++[b]
  have ih':dedupT (y :: (l++[a,b]))=if ordT a b=0 then dedupT (y :: (l++[a])) else dedupT (y :: (l++[a]))++[b]:=ih
  rw[dedup_cons2,ih',dedup_cons2]
  by_cases h1:ordT a b=0
  ·simp only[if_pos h1]
  ·simp only[if_neg h1]
   split <;> rfl
theorem dedup_take {s:List Ty} {n:Nat} (h0:0<n) (h:n<s.length):dedupT (s.take (n+1))=if ordT s[n - 1] s[n]=0 then dedupT (s.take n) else dedupT (s.take n)++[s[n]]:=by
 obtain⟨m,rfl⟩:∃ m,n=m+1:=⟨n - 1,by omega⟩
 have e1:s.take (m+1)=s.take m++[s[m]]:=List.take_succ_eq_append_getElem (by omega)
 have e2:s.take (m+1+1)=s.take m++[s[m],s[m+1]]:=by rw[List.take_succ_eq_append_getElem h,e1,List.append_assoc];rfl
 rw[e2,e1,dedup_snoc]
 rfl
theorem sort_nil:SortN:=by
 intro w
 have h:=AnyF.slices_SortFunc_none (P:=Tryz.prog) (ρ:=sortTy_ren) { sortTy with } none 0 (.func (.func 101) #[] #[]) w
 refine h.mono ?_
 rintro e w' ⟨rfl,rfl⟩
 exact⟨rfl,Below.refl _ _⟩
structure OPre (K:Nat→Prop) (w:World) (k:Int) (s:ByteArray) (n:Int) (ps:List Ty) (fs:FsT) (vs:VsT) (A:Option Addr) (c:Nat) (B:Option Addr) (d:Nat) (C:Option Addr) (e:Nat) (w1:World):Prop where
 HX:Hid (∀ wx,Below w1.heap.size w1 wx→(wx.cell? ⟨w.heap.size,0,none⟩=some (.int .i64 k)∧wx.cell? ⟨w.heap.size,1,none⟩=some (.string s)∧wx.cell? ⟨w.heap.size,2,none⟩=some (.int .i64 n)∧wx.cell? ⟨w.heap.size,3,none⟩=some (.slice A ps.length c)∧wx.cell? ⟨w.heap.size,4,none⟩=some (.slice B fs.length d)∧wx.cell? ⟨w.heap.size,5,none⟩=some (.slice C vs.length e)))
 HB:Hid (Below w.heap.size w w1)
 HS:Hid (w1.heap.size=w.heap.size+1)
 HW:Hid (w1=w.alloc (.cells #[.int .i64 k,.string s,.int .i64 n,.slice A ps.length c,.slice B fs.length d,.slice C vs.length e] 26))
 HR:Hid (RepT K w1 (.mk k s n ps fs vs) [.int .i64 k,.string s,.int .i64 n,.slice A ps.length c,.slice B fs.length d,.slice C vs.length e])
theorem one_pre {K:Nat→Prop} {w:World} {k:Int} {s:ByteArray} {n:Int} {ps:List Ty} {fs:FsT} {vs:VsT} {cs:List Value} {R:Prop} (hr:RepT K w (.mk k s n ps fs vs) cs)
  (main:∀ (A:Option Addr) (c:Nat) (B:Option Addr) (d:Nat) (C:Option Addr) (e:Nat) (w1:World),OPre K w k s n ps fs vs A c B d C e w1→cs=[.int .i64 k,.string s,.int .i64 n,.slice A ps.length c,.slice B fs.length d,.slice C vs.length e]→R):R:=by
 obtain⟨A,c,B,d,C,e,hc,-⟩:=hr.inv
 simp only[cells6T] at hc
 rw[hc] at hr
 obtain⟨w1,hw1⟩:∃ x,x=w.alloc (.cells #[.int .i64 k,.string s,.int .i64 n,.slice A ps.length c,.slice B fs.length d,.slice C vs.length e] 26):=⟨_,rfl⟩
 have hb1:Below w.heap.size w w1:=by rw[hw1];exact (Below.refl _ _).alloc (Nat.le_refl _) _
 have hx0:w1.heap[w.heap.size]?=some (.cells #[.int .i64 k,.string s,.int .i64 n,.slice A ps.length c,.slice B fs.length d,.slice C vs.length e] 26 (0,0)):=by rw[hw1];exact heap_alloc_new w _
 refine main A c B d C e w1 ⟨Hd fun wx hx=>?_,Hd hb1,Hd (by rw[hw1];simp),Hd hw1,Hd (hr.later hb1)⟩ hc
 have h1:=box_up hx (Array.getElem?_eq_some_iff.1 hx0).1 hx0
 exact⟨Ch h1 0,Ch h1 1,Ch h1 2,Ch h1 3,Ch h1 4,Ch h1 5⟩
structure ORes (K:Nat→Prop) (w:World) (k:Int) (s:ByteArray) (n:Int) (ps:List Ty) (fs:FsT) (vs:VsT) (A:Option Addr) (c:Nat) (B:Option Addr) (d:Nat) (C:Option Addr) (e:Nat) (w1:World) (g:Nat):Prop where
 HX:Hid (∀ wx,Below w1.heap.size w1 wx→(wx.cell? ⟨w.heap.size,0,none⟩=some (.int .i64 k)∧wx.cell? ⟨w.heap.size,1,none⟩=some (.string s)∧wx.cell? ⟨w.heap.size,2,none⟩=some (.int .i64 n)∧wx.cell? ⟨w.heap.size,3,none⟩=some (.slice A ps.length c)∧wx.cell? ⟨w.heap.size,4,none⟩=some (.slice B fs.length d)∧wx.cell? ⟨w.heap.size,5,none⟩=some (.slice C vs.length e)))
 HY:Hid (w1.heap[g]?=some (.cells #[.int .i64 0,.string ⟨#[]⟩,.int .i64 0,.slice none 0 0,.slice none 0 0,.slice none 0 0] 26 (0,0)))
 HB:Hid (Below w.heap.size w w1)
 HS:Hid (w1.heap.size=g+1)
 HG:Hid (g=w.heap.size+1)
 HW:Hid (w1=(w.alloc (.cells #[.int .i64 k,.string s,.int .i64 n,.slice A ps.length c,.slice B fs.length d,.slice C vs.length e] 26)).alloc (.cells #[.int .i64 0,.string ⟨#[]⟩,.int .i64 0,.slice none 0 0,.slice none 0 0,.slice none 0 0] 26))
 HR:Hid (RepT K w1 (.mk k s n ps fs vs) [.int .i64 k,.string s,.int .i64 n,.slice A ps.length c,.slice B fs.length d,.slice C vs.length e])
theorem one_res {K:Nat→Prop} {w:World} {k:Int} {s:ByteArray} {n:Int} {ps:List Ty} {fs:FsT} {vs:VsT} {cs:List Value} {R:Prop} (hr:RepT K w (.mk k s n ps fs vs) cs)
  (main:∀ (A:Option Addr) (c:Nat) (B:Option Addr) (d:Nat) (C:Option Addr) (e:Nat) (w1:World) (g:Nat),ORes K w k s n ps fs vs A c B d C e w1 g→cs=[.int .i64 k,.string s,.int .i64 n,.slice A ps.length c,.slice B fs.length d,.slice C vs.length e]→R):R:=by
 obtain⟨A,c,B,d,C,e,hc,-⟩:=hr.inv
 simp only[cells6T] at hc
 rw[hc] at hr
 obtain⟨w1,hw1⟩:∃ x,x=(w.alloc (.cells #[.int .i64 k,.string s,.int .i64 n,.slice A ps.length c,.slice B fs.length d,.slice C vs.length e] 26)).alloc (.cells #[.int .i64 0,.string ⟨#[]⟩,.int .i64 0,.slice none 0 0,.slice none 0 0,.slice none 0 0] 26):=⟨_,rfl⟩
 have hb1:Below w.heap.size w w1:=by rw[hw1];exact ((Below.refl _ _).alloc (Nat.le_refl _) _).alloc (by simp) _
 have hx0:w1.heap[w.heap.size]?=some (.cells #[.int .i64 k,.string s,.int .i64 n,.slice A ps.length c,.slice B fs.length d,.slice C vs.length e] 26 (0,0)):=by rw[hw1,Below.heap_alloc _ _ _ (by simp)];exact heap_alloc_new w _
 have hy0:w1.heap[w.heap.size+1]?=some (.cells #[.int .i64 0,.string ⟨#[]⟩,.int .i64 0,.slice none 0 0,.slice none 0 0,.slice none 0 0] 26 (0,0)):=by
  rw[hw1]
  have h:=heap_alloc_new (w.alloc (.cells #[.int .i64 k,.string s,.int .i64 n,.slice A ps.length c,.slice B fs.length d,.slice C vs.length e] 26)) (.cells #[.int .i64 0,.string ⟨#[]⟩,.int .i64 0,.slice none 0 0,.slice none 0 0,.slice none 0 0] 26)
  rw[World.size_alloc] at h
  exact h
 refine main A c B d C e w1 _ ⟨Hd fun wx hx=>?_,Hd hy0,Hd hb1,Hd (by rw[hw1];simp),Hd rfl,Hd hw1,Hd (hr.later hb1)⟩ hc
 have h1:=box_up hx (Array.getElem?_eq_some_iff.1 hx0).1 hx0
 exact⟨Ch h1 0,Ch h1 1,Ch h1 2,Ch h1 3,Ch h1 4,Ch h1 5⟩
end Go.Proofs.YtlpfpehegddcfaaGreatDoor
