import Derived.Test.YtlpfpehegddcfaaGreatDoorMn30
namespace Go.Proofs.YtlpfpehegddcfaaGreatDoor
set_option maxRecDepth 100000
set_option maxHeartbeats 64000000
open Go.RowKit
theorem infoGa:(Tryz.prog.info? 105).map (fun i=>(i.zero,i.size,i.bytes))=some (some (.agg #[.string ⟨#[]⟩,.slice none 0 0]),2,40):=by kernel_rfl
theorem row_list {w0 w:World} {m:Nat} {F:ByteArray→Option Rw} {G:List (ByteArray×Ty)} (h:GI w0 w m F G) (s:ByteArray) (hl:G.length≤1000000000):∃ A c,rwV (rowOf F s)=.slice A (gatN s G).length c∧ListT (fun b=>b<w.heap.size) w (gatN s G) A c:=by
 have hgl:(gatN s G).length≤G.length:=by unfold gatN;rw[List.length_map];exact List.length_filter_le _ _
 obtain⟨vs,hown,hr⟩:=h.rows s
 generalize gatN s G=ts at hown hr hgl ⊢
 rcases hown.2 with ⟨hv,hn⟩ | ⟨g,cap,cur,hv,hg,hh,hle,hmax,hsz,htk⟩
 ·refine⟨none,0,by rw[hv,hn],⟨⟨0,0,⟨by omega,by omega,fun _=>rfl,(fun hp=>by omega)⟩,(fun i hi=>by omega)⟩⟩⟩
 ·refine⟨some ⟨g,0,none⟩,cap,hv,⟨⟨g,0,⟨hle,by omega,(fun e=>by cases e),fun _=>⟨rfl,(Array.getElem?_eq_some_iff.1 hh).1⟩⟩,fun i hi=>?_⟩⟩⟩
  obtain⟨cs,hcs,hc⟩:=hr i hi
  refine⟨cs,fun j u hj=>?_,hcs.weak fun b hb=>hb.1⟩
  have h1:=hc j u hj
  rw[←htk,List.getElem?_take] at h1
  split at h1
  ·rw[Nat.zero_add,Ch hh]
   simpa using h1
  ·cases h1
theorem gi_start (w0:World):GI w0 (w0.alloc (.map #[] 0)) w0.heap.size (fun _=>none) []:=
 ⟨MapIs.new rowMK w0,Nat.le_refl _,fun _=>⟨[],⟨rfl,.inl ⟨rfl,rfl⟩⟩,(fun _ h=>by simp[gatN_nil] at h)⟩,(fun _ _ _ h=>by cases h),(fun _ h=>by cases h)⟩
theorem rowB_start {m x:Nat} (h:rowB m (fun _=>none) x):x=m:=by
 rcases h with h | ⟨s,h⟩
 ·exact h
 ·cases h
def GthP (w:World) (l:List ByteArray) (G:List (ByteArray×Ty)):Ending→World→Prop:=fun e w'=>Below w.heap.size w w'∧((l=[]∧e=.returned (.slice none 0 0))∨∃ s g c A c',l=[s]∧e=.returned (.slice (some ⟨g,0,none⟩) 1 c)∧w'.cell? ⟨g,0,none⟩=some (.string s)∧w'.cell? ⟨g,1,none⟩=some (.slice A (gatN s G).length c')∧ListT (fun b=>b<w'.heap.size) w' (gatN s G) A c')
theorem gath_row {w4 W5 w6:World} {v:Value} {nm:ByteArray} {x:Value} (h:w6.ownsRow w4.heap.size 105 2 v (0+1) ([]++[.string nm,x])) (hb:Below w4.heap.size w4 W5) (hg:W5.grownBy w6 none):∃ g c,v=.slice (some ⟨g,0,none⟩) 1 c∧Below w4.heap.size w4 w6∧w6.cell? ⟨g,0,none⟩=some (.string nm)∧w6.cell? ⟨g,1,none⟩=some x:=by
 rcases h.2 with ⟨_,h2⟩ | ⟨g,cap,cur,hv,hge,hh,hle,_,hsz,htk⟩
 ·simp at h2
 ·have hc:∀ j u,([.string nm,x]:List Value)[j]?=some u→w6.cell? ⟨g,j,none⟩=some u:=fun j u hj=>by
   rw[List.nil_append] at htk
   rw[←htk,List.getElem?_take] at hj
   split at hj
   ·rw[Ch hh];simpa using hj
   ·cases hj
  exact⟨g,cap,hv,hb.grown hg hb.size (fun k hk=>by cases hk),hc 0 _ rfl,hc 1 _ rfl⟩
theorem gather_few {K K':Nat→Prop} {w:World} {t p:Ty} {cs ds:List Value} (hr:RepT K w t cs) (hp:RepT K' w p ds) (hlo:∀ b,K b→b<w.heap.size) (hlo':∀ b,K' b→b<w.heap.size) (hft:formT t=true) (hfp:formT p=true) (hold:HoldP p t) (hcnt:cntT p+cntT t≤1000000) (hlen:(gathT p t).length≤1000000000) (hn:(namesI p).length≤1) (hnm:∀ x∈namesI p,x.size≤maxLen) :
  Calls Tryz.prog 62 #[.agg cs.toArray,.agg ds.toArray] w (GthP w (namesI p) (gathT p t)):=by
 have kinf:=fun (K1:Nat→Prop) (wx:World) (es:List Value) (he:RepT K1 wx p es)=>infers_few he hfp hn
 obtain⟨k,s,n,ps,fs,vs⟩:=t
 obtain⟨k2,s2,n2,ps2,fs2,vs2⟩:=p
 obtain⟨A,c,B,d,C,e0,rfl,-⟩:=hr.inv
 obtain⟨A2,c2,B2,d2,C2,e2,rfl,-⟩:=hp.inv
 simp only[cells6T] at hr hp ⊢
 obtain⟨wa,hwa⟩:∃ x,x=w.alloc (.cells #[.int .i64 k,.string s,.int .i64 n,.slice A ps.length c,.slice B fs.length d,.slice C vs.length e0] 26):=⟨_,rfl⟩
 obtain⟨w0,hw0⟩:∃ x,x=wa.alloc (.cells #[.int .i64 k2,.string s2,.int .i64 n2,.slice A2 ps2.length c2,.slice B2 fs2.length d2,.slice C2 vs2.length e2] 26):=⟨_,rfl⟩
 obtain⟨w2,hw2⟩:∃ x,x=w0.alloc (.map #[] 0):=⟨_,rfl⟩
 have hba:Below w.heap.size w wa:=by rw[hwa];exact (Below.refl _ _).alloc (Nat.le_refl _) _
 have hb0:Below wa.heap.size wa w0:=by rw[hw0];exact (Below.refl _ _).alloc (Nat.le_refl _) _
 have hb2:Below w0.heap.size w0 w2:=by rw[hw2];exact (Below.refl _ _).alloc (Nat.le_refl _) _
 have hsa:wa.heap.size=w.heap.size+1:=by rw[hwa];simp
 have hs0:w0.heap.size=w.heap.size+2:=by rw[hw0];simp[hsa]
 have hs2:w2.heap.size=w.heap.size+3:=by rw[hw2];simp[hs0]
 have hta:AtT K wa (.mk k s n ps fs vs) w.heap.size 0:=by rw[hwa];exact AtT.box 26 hr
 have hpa:AtT K' w0 (.mk k2 s2 n2 ps2 fs2 vs2) (w.heap.size+1) 0:=by
  have h:=AtT.box 26 (hp.later hba)
  rw[hsa] at h
  rw[hw0]
  exact h
 have hb02:Below w.heap.size w w2:=hba.trans ((hb0.trans (hb2.mono hb0.size)).mono hba.size)
 have hx:w0.heap[w.heap.size+1]?=some (.cells #[.int .i64 k2,.string s2,.int .i64 n2,.slice A2 ps2.length c2,.slice B2 fs2.length d2,.slice C2 vs2.length e2] 26 (0,0)):=by
  have h:=heap_alloc_new wa (.cells #[.int .i64 k2,.string s2,.int .i64 n2,.slice A2 ps2.length c2,.slice B2 fs2.length d2,.slice C2 vs2.length e2] 26)
  rw[hsa] at h
  rw[hw0]
  exact h
 have hgi:GI w0 w2 w0.heap.size (fun _=>none) []:=by rw[hw2];exact gi_start w0
 have KH:=Hd (hold K K' w0 w2 w0.heap.size (fun _=>none) [] w.heap.size 0 (w.heap.size+1) 0 (hta.later (hb0.trans (hb2.mono hb0.size))) (hpa.later hb2)
  (fun x hx=>⟨by rcases hx with h | rfl;(have:=hlo x h;omega);omega,fun e=>by have:=rowB_start e;rcases hx with h | rfl;(have:=hlo x h;omega);omega⟩)
  (fun x hx=>⟨by rcases hx with h | rfl;(have:=hlo' x h;omega);omega,fun e=>by have:=rowB_start e;rcases hx with h | rfl;(have:=hlo' x h;omega);omega⟩)
  hgi hb2.size hfp hft hcnt (by rw[List.length_nil];omega))
 have HPR:=Hd (hp.later hb02)
 have HLO:=Hd hlo'
 have HXP:=Hd (box_up hb2 (Array.getElem?_eq_some_iff.1 hx).1 hx)
 have HB02:=Hd hb02
 have HKI:=Hd kinf
 have HWA:=Hd hwa
 have HW0:=Hd hw0
 have HW2:=Hd hw2
 have HS0:=Hd hs0
 have HLEN:=Hd hlen
 have HNM0:=Hd hnm
 clear hnm kinf hr hp hlo hlo' hft hfp hold hcnt hlen hba hb0 hb2 hsa hs0 hs2 hta hpa hb02 hx hgi hwa hw0 hw2
 rw[List.nil_append] at KH
 generalize gathT (.mk k2 s2 n2 ps2 fs2 vs2) (.mk k s n ps fs vs)=G at KH HLEN ⊢
 generalize namesI (.mk k2 s2 n2 ps2 fs2 vs2)=l at hn HKI HNM0 ⊢
 go_enter Tryz.func62,Tryz.ntmps62
 go_upto_region 1 with fail
 rw[←HWA.out,←HW0.out]
 have hmm:=@run_makeMap Tryz.prog
 go_upto_region 2 with fail
 clear hmm
 rw[←HW2.out]
 go_wp2_with fail
 refine KH.out.mono ?_
 rintro e w3 ⟨rfl,F',hG,hbut,hf⟩
 have hnr:¬ rowB w0.heap.size (fun _=>none) (w.heap.size+1):=fun e=>by have h1:=rowB_start e;have h2:=HS0.out;omega
 have HG:=Hd hG
 have HB3:Hid (Below w.heap.size w w3):=Hd (HB02.out.trans ((hbut.below (B:=w.heap.size) HB02.out.size fun x hx=>by have h1:=rowB_start hx;have h2:=HS0.out;omega)))
 have hxp:=(hbut.block _ (Array.getElem?_eq_some_iff.1 HXP.out).1 hnr).trans HXP.out
 have HPR3:=Hd (HPR.out.but (K':=fun _=>True) hbut fun x hx=>⟨fun e=>by have h1:=rowB_start e;have h2:=HS0.out;have h3:=HLO.out x hx;omega,trivial⟩)
 obtain⟨x0,x1,x2,x3,x4,x5⟩:w3.cell? ⟨w.heap.size+1,0,none⟩=some (.int .i64 k2)∧w3.cell? ⟨w.heap.size+1,1,none⟩=some (.string s2)∧w3.cell? ⟨w.heap.size+1,2,none⟩=some (.int .i64 n2)∧w3.cell? ⟨w.heap.size+1,3,none⟩=some (.slice A2 ps2.length c2)∧w3.cell? ⟨w.heap.size+1,4,none⟩=some (.slice B2 fs2.length d2)∧w3.cell? ⟨w.heap.size+1,5,none⟩=some (.slice C2 vs2.length e2):=⟨Ch hxp 0,Ch hxp 1,Ch hxp 2,Ch hxp 3,Ch hxp 4,Ch hxp 5⟩
 clear hG hbut hf hnr hxp
 go_wp2_with fail
 refine (HKI.out _ _ _ HPR3.out).mono ?_
 rintro e w4 ⟨Ax,cx,rfl,hls,hb4⟩
 have HG4:=Hd (HG.out.later hb4)
 have HB4:=Hd (HB3.out.trans (hb4.mono HB3.out.size))
 have HLS:=Hd hls
 clear hls hb4 x0 x1 x2 x3 x4 x5
 rcases l with _ | ⟨nm,_ | ⟨y,l⟩⟩
 ·simp only[List.length_nil]
  go_wp2_with fail
  go_loopw [15,6] (fun v l wr=>v=.int .i64 0∧l=.slice none 0 0∧wr=w4) (fun _ _ _=>0)
  case atStart=>exact⟨rfl,rfl,rfl⟩
  case round=>
   obtain⟨rfl,rfl,rfl⟩:=hrel
   go_wp2_with fail
   go_ret
   exact⟨HB4.out,.inl ⟨rfl,rfl⟩⟩
 ·simp only[List.length_cons,List.length_nil,Nat.zero_add]
  obtain⟨Ar,cr,hrw,hlist⟩:=row_list HG4.out nm HLEN.out
  obtain⟨bb,oo,hAx,hll,hat⟩:=HLS.out.ex
  have hAx:=hAx (by simp)
  subst hAx
  have hn0:=hat 0 (by simp)
  simp only[Nat.add_zero,List.getElem_cons_zero] at hn0
  have lk:(Instr.lookup 135 (.map (some w0.heap.size)) (.string nm) false).run Tryz.prog w4=.ok (.slice Ar (gatN nm G).length cr) w4:=by
   have h:=HG4.out.map.look1 nm (HNM0.out nm (by simp))
   rw[show rowMK.val ((F' nm).getD rowMK.zero)=rwV (rowOf F' nm) from rfl,hrw] at h
   exact h
  have HLK:=Hd lk
  have HLI:=Hd hlist
  obtain⟨W5,hW5⟩:∃ x,x=w4.alloc (.cells #[.string nm,.slice Ar (gatN nm G).length cr] 105):=⟨_,rfl⟩
  have hb5:Below w4.heap.size w4 W5:=by rw[hW5];exact (Below.refl _ _).alloc (Nat.le_refl _) _
  have HB5:=Hd hb5
  have HX5:Hid (W5.heap[w4.heap.size]?=some (.cells #[.string nm,.slice Ar (gatN nm G).length cr] 105 (0,0))):=Hd (by rw[hW5];exact heap_alloc_new w4 _)
  have HW5:=Hd hW5
  have HN0:=Hd hn0
  clear lk hlist hW5 hb5 hll hat hrw hn0 hn
  go_wp2_with fail
  go_loopw [15,6] (fun v l wr=>(v=.int .i64 0∧l=.slice none 0 0∧wr=w4)∨(v=.int .i64 1∧∃ g c,l=.slice (some ⟨g,0,none⟩) 1 c∧Below w4.heap.size w4 wr∧wr.cell? ⟨g,0,none⟩=some (.string nm)∧wr.cell? ⟨g,1,none⟩=some (.slice Ar (gatN nm G).length cr))) (fun v _ _=>1 - (intOf v).toNat)
  case atStart=>exact .inl ⟨rfl,rfl,rfl⟩
  case round=>
   rcases hrel with ⟨rfl,rfl,rfl⟩ | ⟨rfl,g,c,rfl,hb,h0,h1⟩
   ·have n0:=HN0.out
    have lk:=HLK.out
    obtain⟨i0,hi0,hz0,hz1,hz2⟩:=partsT infoGa
    go_wp2_with (at_builtin;refine wpList_plain rfl fun Kx hK=>?_;rw[←HW5.out];go_loud (refine wp_append_own_at _ _ 102 rfl wr.heap.size 105 i0 _ 2 40 Tryz.underlying102 hi0 hz0 hz1 hz2 (by decide) (by decide) (.slice none 0 0) 0 [] rfl ⟨rfl,.inl ⟨rfl,rfl⟩⟩ ⟨wr.heap.size,0,none⟩ 1 1 [.string nm,.slice Ar (gatN nm G).length cr] rfl rfl ?_ ?_ (by decide) (by decide) HB5.out.size ?_))
    ·intro j u hj
     rw[add_zero']
     exact row_cell HX5.out hj
    ·intro u hu
     simp only[List.mem_cons,List.not_mem_nil,or_false] at hu
     rcases hu with rfl | rfl <;> rfl
    intro v6 w6 hown hg6 _ _
    refine hK _ _ ?_
    clear hK Kx
    have HFIN:=Hd (gath_row hown HB5.out hg6)
    clear hown hg6 n0 lk
    obtain⟨g6,c6,rfl,hb6,h60,h61⟩:=HFIN.out
    have HF6:=Hd (And.intro hb6 (And.intro h60 h61))
    clear HFIN hb6 h60 h61
    go_wp2_with fail
    refine⟨.inr ⟨by first | rfl | simp,g6,c6,by first | rfl | simp,HF6.out.1,HF6.out.2.1,HF6.out.2.2⟩,?_⟩
    first | decide | simp[intOf]
   ·have HF:=Hd (And.intro hb (And.intro h0 h1))
    clear hb h0 h1
    go_wp2_with fail
    go_ret
    exact⟨HB4.out.trans (HF.out.1.mono HB4.out.size),.inr ⟨nm,g,c,Ar,cr,rfl,rfl,HF.out.2.1,HF.out.2.2,(HLI.out.later HF.out.1).weak fun b hb=>Nat.lt_of_lt_of_le hb HF.out.1.size⟩⟩
 ·simp at hn
noncomputable def idxV (V:Nat→Value) (v:Value) (h:∃ i,V i=v):Nat:=Classical.choose h
theorem idxV_spec (V:Nat→Value) (v:Value) (h:∃ i,V i=v):V (idxV V v h)=v:=Classical.choose_spec h
open Classical in
noncomputable def tysMK (V:Nat→Value) (h0:V 0=.agg #[.int .i64 0,.string ⟨#[]⟩,.int .i64 0,.slice none 0 0,.slice none 0 0,.slice none 0 0]):MK Tryz.prog Nat where
 T:=67
 S:=9
 E:=26
 val:=V
 dat:=fun i=>.lit (.int .i64 (idxV V (V i) ⟨i,rfl⟩))
 zero:=0
 R:=fun v=>if h:∃ i,V i=v then some (.lit (.int .i64 (idxV V v h)),[]) else none
 hR:=fun i=>by
  have h:∃ j,V j=V i:=⟨i,rfl⟩
  rw[dif_pos h]
 inv:=by
  intro v a ps h
  by_cases hv:∃ i,V i=v
  ·rw[dif_pos hv] at h
   simp only[Option.some.injEq,Prod.mk.injEq,DataW.lit.injEq,Lit.int.injEq,true_and,Int.natCast_inj] at h
   have h1:=idxV_spec V v hv
   have h2:=idxV_spec V (V a) ⟨a,rfl⟩
   rw[h.1,h2] at h1
   exact h1.symm
  ·rw[dif_neg hv] at h
   cases h
 hS:=Tryz.underlying9
 hT:=Tryz.underlying67
 hz:=fun W=>by
  show (zeroValue 26).run _ W=.ok (V 0) W
  rw[h0]
  exact Tryz.zeroValue26 W
def firstN:List (ByteArray×Ty)→ByteArray→Option Nat
 | [],_=>none
 | f :: l,s=>if f.1=s then some 1 else (firstN l s).map (· + 1)
theorem firstN_look (L:List (ByteArray×Ty)) (s:ByteArray):lookD L s=(firstN L s).bind fun i=>(L[i - 1]?).map (·.2):=by
 unfold lookD
 induction L with
 | nil=>rfl
 | cons f l ih=>
  rw[List.find?_cons,firstN]
  by_cases h:f.1=s
  ·rw[if_pos h]
   simp[h]
  ·rw[if_neg h]
   simp only[h,decide_false]
   rw[ih]
   rcases hn:firstN l s with _ | i
   ·rfl
   ·have hi:1≤i:=by
     have key:∀ (l:List (ByteArray×Ty)) i,firstN l s=some i→1≤i:=by
      intro l
      induction l with
      | nil=>intro i h;rw[firstN] at h;cases h
      | cons g l ih2=>
       intro i h
       rw[firstN] at h
       split at h
       ·have:=Option.some.inj h;omega
       ·rcases hm:firstN l s with _ | j
        ·rw[hm] at h;cases h
        ·rw[hm] at h
         have:=Option.some.inj h
         simp only at this
         omega
     exact key l i hn
    simp only[Option.map_some,Option.bind_some]
    have e:i+1 - 1=(i - 1)+1:=by omega
    rw[e,List.getElem?_cons_succ]
theorem firstN_next (L:List (ByteArray×Ty)) (i:Nat) (hi:i<L.length) (x:ByteArray):firstN (L.take (i+1)) x=(match firstN (L.take i) x with | some j=>some j | none=>if L[i].1=x then some (i+1) else none):=by
 induction L generalizing i with
 | nil=>cases hi
 | cons f l ih=>
  rcases i with _ | i
  ·rw[List.take_succ_cons,List.take_zero,List.take_zero]
   simp[firstN]
  ·rw[List.take_succ_cons,List.take_succ_cons,firstN,firstN,List.getElem_cons_succ]
   by_cases h:f.1=x
   ·rw[if_pos h];simp[h]
   ·rw[if_neg h,if_neg h,ih i (by simpa using hi)]
    rcases firstN (l.take i) x with _ | j
    ·simp only[Option.map_none]
     split <;> rfl
    ·rfl
theorem allR_cnt (l:List Ty):cntL (allR l)≤cntL l+1:=by
 have h3:=cntL_flat l
 have h2:=cntL_filter (fun t=>!(t.k == 1)) (flatU l)
 have h4:cntL (nonN l)=cntL ((flatU l).filter fun t=>!(t.k == 1)):=rfl
 have hb:∀ k,cntL (besT k (nonN l))≤cntL (nonN l)+1:=fun k=>by
  have h5:=cntL_filter (fun t=>!(t.k == k) && infT t) (nonN l)
  unfold besT
  rw[cntL_cons,cnt_kind]
  omega
 have h6:=hb 3
 have h7:=hb 2
 unfold allR
 split
 ·omega
 ·split <;> omega
theorem cnt_unionR (l:List Ty):cntT (shutU (sortT (keptR l)))≤cntL l+2:=by
 have h1:=cntL_sort (keptR l)
 have h2:=cntL_filter (fun t=>!dropR (hasK 7 (allR l)) (hasK 8 (allR l)) t) (allR l)
 have h3:=allR_cnt l
 have h4:cntL (keptR l)=cntL ((allR l).filter fun t=>!dropR (hasK 7 (allR l)) (hasK 8 (allR l)) t):=rfl
 generalize sortT (keptR l)=s at h1
 rcases s with _ | ⟨x,_ | ⟨y,s⟩⟩
 ·show cntT (tyK 1)≤_;rw[cnt_kind];omega
 ·show cntT x≤_;rw[cntL_cons,cntL_nil] at h1;omega
 ·show cntT (.mk 15 emptyB 0 (x :: y :: s) [] [])≤_
  rw[cntT_mk]
  have e1:cntF []=0:=rfl
  have e2:cntV []=0:=rfl
  omega
def Exact {α:Type} (n M:Nat) (S L:α):Prop:=(M≤4096→n=M∧S=L)∧(4096<M→4096<n)
theorem Exact.step {α β:Type} {n M m n1:Nat} {S L:α} {u x:β} {f:α→β→α} (h:Exact n M S L) (hn:n≤4096) (h2:Exact n1 (n+m) u x):Exact n1 (M+m) (f S u) (f L x):=by
 have hM:M≤4096:=Classical.byContradiction fun h'=>by have:=h.2 (by omega);omega
 obtain⟨rfl,rfl⟩:=h.1 hM
 exact⟨fun h'=>⟨(h2.1 h').1,by rw[(h2.1 h').2]⟩,h2.2⟩
theorem Exact.add {α:Type} {n M m:Nat} {S L:α} (h:Exact n M S L):Exact (n+min m 4097) (M+m) S L:=by
 refine⟨fun h'=>?_,fun h'=>?_⟩
 ·have:=h.1 (by omega)
  exact⟨by omega,this.2⟩
 ·rcases Nat.lt_or_ge 4096 M with h3 | h3
  ·have:=h.2 h3;omega
  ·have:=(h.1 h3).1;omega
theorem Exact.past {α:Type} {n M M':Nat} {S S' L L':α} (h:Exact n M S L) (hn:4096<n) (hM:M≤M'):Exact n M' S' L':=
 ⟨fun h'=>by have:=(h.1 (by omega)).1;omega,fun _=>hn⟩
theorem fillPs_next {F:ByteArray→Option Ty} (k:Int) (l:List Ty) (i:Nat) (h:i<l.length):fillPs F k 0 (l.take (i+1))=fillPs F k 0 (l.take i)++[if k=21∧i=1 then l[i] else fillT F l[i]]:=by
 apply List.ext_getElem?
 intro j
 rw[fillPs_get,List.getElem?_append,fillPs_len,List.length_take,fillPs_get,Nat.min_eq_left (by omega)]
 by_cases hj:j<i
 ·rw[if_pos hj,List.getElem?_take,List.getElem?_take,if_pos (by omega),if_pos hj]
 ·rw[if_neg hj]
  by_cases e:j=i
  ·subst e
   rw[List.getElem?_take,if_pos (by omega),List.getElem?_eq_getElem h,Nat.sub_self]
   simp
  ·rw[List.getElem?_take,if_neg (by omega)]
   rw[List.getElem?_eq_none (by rw[List.length_singleton];omega)]
   rfl
theorem fillFs_next {F:ByteArray→Option Ty} (l:FsT) (i:Nat) (h:i<l.length):fillFs F (l.take (i+1))=fillFs F (l.take i)++[(l[i].1,l[i].2.1,fillT F l[i].2.2)]:=by
 rw[fillFs_map,fillFs_map,List.take_succ_eq_append_getElem h,List.map_append]
 rfl
theorem cntL_snoc (l:List Ty) (t:Ty):cntL (l++[t])=cntL l+cntT t:=by rw[cntL_app,cntL_cons,cntL_nil];omega
theorem cntF_snoc:∀ (l:FsT) (f:ByteArray×Int×Ty),cntF (l++[f])=cntF l+cntT f.2.2
 | [],f=>by simp[cntF]
 | g :: l,f=>by
  have e1:cntF (g :: (l++[f]))=cntT g.2.2+cntF (l++[f]):=by simp[cntF]
  have e2:cntF (g :: l)=cntT g.2.2+cntF l:=by simp[cntF]
  rw[List.cons_append,e1,e2,cntF_snoc l f]
  omega
theorem cntL_next {l:List Ty} {i:Nat} (h:i<l.length):cntL (l.take (i+1))=cntL (l.take i)+cntT l[i]:=by
 rw[List.take_succ_eq_append_getElem h,cntL_snoc]
theorem cntF_next {l:FsT} {i:Nat} (h:i<l.length):cntF (l.take (i+1))=cntF (l.take i)+cntT l[i].2.2:=by
 rw[List.take_succ_eq_append_getElem h,cntF_snoc]
theorem cntL_takeJ (l:List Ty) (i:Nat):cntL (l.take i)≤cntL l:=by
 have h:cntL (l.take i++l.drop i)=cntL l:=by rw[List.take_append_drop i l]
 rw[cntL_app] at h;omega
theorem OwnE.but {P O:Nat→Prop} {T:TypeId} {z B:Nat} {w w':World} {v:Value} {l:List Ty} (h:OwnE (WhE P) T z B w v l) (hb:ButG O w w') (hP:∀ x,O x→¬ P x) (hv:∀ x,v.ownBlock=some x→¬ O x):OwnE (WhE P) T z B w' v l:=by
 have hlt:=fun b (e:v.ownBlock=some b)=>(h.lt e).2
 obtain⟨vs,h1,h2⟩:=h
 refine⟨vs,ownsRow_keep h1 fun b e=>hb.block b (hlt b e) (hv b e),fun i hi=>?_⟩
 obtain⟨cs,h3,h4,h5⟩:=h2 i hi
 exact⟨cs,RepT.but h3 hb fun x hx=>⟨fun ho=>hP x ho hx.2,⟨Nat.lt_of_lt_of_le hx.1.1 hb.size,hx.1.2⟩,hx.2⟩,h4,h5⟩
theorem ListT.but {O K K':Nat→Prop} {a b:World} {l:List Ty} {A:Option Addr} {c:Nat} (h:ListT K a l A c) (hb:ButG O a b) (hk:∀ x,K x→¬ O x∧K' x):ListT K' b l A c:=by
 obtain⟨g,o,h1,h2⟩:=h
 refine⟨g,o,h1.weak fun x hx=>(hk x hx).2,fun i hi=>?_⟩
 have hg:=(h1.some (by omega)).2
 exact (h2 i hi).keep (fun x hx=>(hk x hx).2) (fun x _ _ hx hc=>hb.cell (hk x hx).1 hc) fun _ _ hc=>hb.cell (hk g hg).1 hc
theorem ListD.but {O K K':Nat→Prop} {a b:World} {l:List (ByteArray×Ty)} {A:Option Addr} {c:Nat} (h:ListD K a l A c) (hb:ButG O a b) (hk:∀ x,K x→¬ O x∧K' x):ListD K' b l A c:=by
 obtain⟨g,o,h1,h2⟩:=h
 refine⟨g,o,h1.weak fun x hx=>(hk x hx).2,fun i hi=>?_⟩
 have hg:=(h1.some (by omega)).2
 obtain⟨h3,h4,h5⟩:=h2 i hi
 exact⟨hb.cell (hk g hg).1 h3,h4,h5.keep (fun x hx=>(hk x hx).2) (fun x _ _ hx hc=>hb.cell (hk x hx).1 hc) fun _ _ hc=>hb.cell (hk g hg).1 hc⟩
def FlE (P:Nat→Prop) (K:Nat→Prop) (w:World) (a:ByteArray×Int×Ty) (cs:List Value):Prop:=∃ rs,cs=.string a.1 :: .int .i64 a.2.1 :: rs∧a.1.size≤1000000000000000∧RepT (fun b=>K b∧P b) w a.2.2 rs
theorem keepFl (P:Nat→Prop):KeepE (FlE P):=fun K K' w w' a cs h ⟨rs,e,h0,h1⟩=>⟨rs,e,h0,keepWh P K K' w w' a.2.2 rs h h1⟩
theorem OwnE.but2 {P O:Nat→Prop} {T:TypeId} {z B:Nat} {w w':World} {v:Value} {l:FsT} (h:OwnE (FlE P) T z B w v l) (hb:ButG O w w') (hP:∀ x,P x→x<w.heap.size→¬ O x) (hv:∀ x,v.ownBlock=some x→¬ O x):OwnE (FlE P) T z B w' v l:=by
 have hlt:=fun b (e:v.ownBlock=some b)=>(h.lt e).2
 obtain⟨vs,h1,h2⟩:=h
 refine⟨vs,ownsRow_keep h1 fun b e=>hb.block b (hlt b e) (hv b e),fun i hi=>?_⟩
 obtain⟨cs,⟨rs,e,h0,h3⟩,h4,h5⟩:=h2 i hi
 exact⟨cs,⟨rs,e,h0,RepT.but h3 hb fun x hx=>⟨hP x hx.2 hx.1.1,⟨Nat.lt_of_lt_of_le hx.1.1 hb.size,hx.1.2⟩,hx.2⟩⟩,h4,h5⟩
theorem cntF_takeJ (l:FsT) (i:Nat):cntF (l.take i)≤cntF l:=by
 have h:cntF (l.take i++l.drop i)=cntF l:=by rw[List.take_append_drop i l]
 have e:∀ a c:FsT,cntF (a++c)=cntF a+cntF c:=fun a c=>by
  induction a with
  | nil=>simp[cntF]
  | cons x a ih=>
   have e1:cntF (x :: (a++c))=cntT x.2.2+cntF (a++c):=by simp[cntF]
   have e2:cntF (x :: a)=cntT x.2.2+cntF a:=by simp[cntF]
   rw[List.cons_append,e1,e2,ih];omega
 rw[e] at h;omega
theorem infoFl:(Tryz.prog.info? 59).map (fun i=>(i.zero,i.size,i.bytes))=some (some (.agg #[.string ⟨#[]⟩,.int .i64 0,.int .i64 0,.string ⟨#[]⟩,.int .i64 0,.slice none 0 0,.slice none 0 0,.slice none 0 0]),8,128):=by kernel_rfl
theorem wp_append_fl {P:Nat→Prop} {B:Nat} {w:World} {v:Value} {l:FsT} {a0:ByteArray×Int×Ty} {rs:List Value} {gg:Nat} {o:Oper} {a:Act} {Kc:Act→World→Prop} {Q:Exit→Act→World→Prop} (sl x:Operand)
  (ho:o.op=.call { callee:=.builtin .append,args:=#[sl,x],argTypes:=#[23,23] }) (hs:a.eval sl=v) (hx:a.eval x=.slice (some ⟨gg,0,none⟩) 1 1)
  (hO:OwnE (FlE P) 59 8 B w v l) (hz:a0.1.size≤1000000000000000) (ht:RepT (fun b=>(b<w.heap.size∧v.ownBlock≠some b)∧P b) w a0.2.2 rs) (hc:∀ j u,(Value.string a0.1 :: Value.int .i64 a0.2.1 :: rs)[j]?=some u→w.cell? ⟨gg,j,none⟩=some u) (hB:B≤w.heap.size) (hsize:l.length+1≤1000000000)
  (h:∀ v' w',OwnE (FlE P) 59 8 B w' v' (l++[a0])→w.grownBy w' v.ownBlock→(v'.ownBlock=v.ownBlock∨v'.ownBlock=some w.heap.size)→Kc (a.put o.dst v') w') :
  Oper.wp Tryz.prog o a w Kc Q:=by
 obtain⟨vs,hown,hreps⟩:=hO
 obtain⟨i0,hi0,hz0,hz1,hz2⟩:=partsT infoFl
 refine wp_append_own_at sl x 23 ho B 59 i0 _ 8 128 Tryz.underlying23 hi0 hz0 hz1 hz2 (by decide) (by decide) v l.length vs hs hown ⟨gg,0,none⟩ 1 1 (Value.string a0.1 :: Value.int .i64 a0.2.1 :: rs) hx (by rw[List.length_cons,List.length_cons,ht.six]) (fun j u hj=>?_) (fun u hu=>?_) (by simp only[maxLen];omega) (by omega) hB ?_
 ·have e2:((⟨gg,0,none⟩:Addr).add j)=⟨gg,j,none⟩:=by unfold Addr.add;by_cases h0:j=0 <;> simp[h0]
  rw[e2];exact hc j u hj
 ·rcases List.mem_cons.1 hu with rfl | hu
  ·rfl
  ·rcases List.mem_cons.1 hu with rfl | hu
   ·rfl
   ·exact one_cells ht u hu
 ·intro v' w' g1 g2 _ g4
  exact h v' w' (OwnE.push (keepFl P) hown hreps (Below.refl _ _) ⟨rs,rfl,hz,ht⟩ (by rw[List.length_cons,List.length_cons,ht.six]) g1 g2 g4).1 g2 g4
theorem OwnE.listFl {P:Nat→Prop} {B:Nat} {w:World} {v:Value} {l:FsT} (h:OwnE (FlE P) 59 8 B w v l) (hB:∀ b,B≤b→P b) (hl:l.length≤1000000000000000):∃ A c,v=.slice A l.length c∧ListF (fun b=>P b∧b<w.heap.size) w l A c:=by
 have hc:∃ A c,v=.slice A l.length c∧(A=none→l.length=0∧c=0)∧l.length≤c:=by
  obtain⟨vs,h1,h2⟩:=h
  rcases h1.2 with ⟨hv,hn⟩ | ⟨g,cap,cur,hv,hg,hh,hle,r⟩
  ·exact⟨none,0,by rw[hv,hn],(fun _=>⟨hn,rfl⟩),by omega⟩
  ·exact⟨_,cap,hv,(fun h=>by cases h),hle⟩
 obtain⟨A0,c0,hv0,hn0,hle0⟩:=hc
 obtain⟨A,c,g,o,hv,hA,hat⟩:=h.spread
 rw[hv0] at hv
 injection hv with hv1 _ hv3
 subst hv1
 subst hv3
 refine⟨A0,c0,hv0,⟨g,o,⟨hle0,hl,fun e=>?_,fun h0=>?_⟩,fun i hi=>?_⟩⟩
 ·first | exact hn0 e | exact (hn0 e).2 | exact (hn0 e).1
 ·obtain⟨e1,e2,e3⟩:=hA h0
  exact⟨e1,hB g e2,e3⟩
 ·obtain⟨cs,⟨rs,rfl,h1,h2⟩,-,h4⟩:=hat i hi
  refine⟨h4 0 _ rfl,h4 1 _ rfl,h1,rs,fun j u hj=>?_,RepT.weak h2 fun b hb=>⟨hb.2,hb.1.1⟩⟩
  have:=h4 (j+2) u (by rw[List.getElem?_cons_succ,List.getElem?_cons_succ];exact hj)
  rw[show o+i*8+2+j=o+i*8+(j+2) from by omega]
  exact this
end Go.Proofs.YtlpfpehegddcfaaGreatDoor
