import Derived.Test.YtlpfpehegddcfaaGreatDoorMn2
namespace Go.Proofs.YtlpfpehegddcfaaGreatDoor
set_option maxRecDepth 100000
set_option maxHeartbeats 64000000
open Go.RowKit
def trimF:Nat→ByteArray→ByteArray
 | 0,s=>s
 | n+1,s=>if 0<s.size∧byteN s (s.size - 1)=39 then trimF n (s.extract 0 (s.size - 1)) else s
def trimQ (s:ByteArray):ByteArray:=trimF s.size s
def nameT (s:ByteArray):Bool:=idB (trimQ s)
theorem trim_go {s:ByteArray} {m:Nat} (h:s.size=m+1) (hb:byteN s m=39):trimQ s=trimQ (s.extract 0 m):=by
 have h2:(s.extract 0 m).size=m:=by rw[ByteArray.size_extract];omega
 unfold trimQ
 rw[h2,h,trimF,if_pos ⟨by omega,by rw[h];exact hb⟩,h]
 rfl
theorem trim_stop {s:ByteArray} {m:Nat} (h:s.size=m+1) (hb:byteN s m≠39):trimQ s=s:=by
 unfold trimQ
 rw[h,trimF,if_neg (fun hx=>hb (by have:=hx.2;rw[h] at this;exact this))]
theorem trim_none {s:ByteArray} (h:s.size=0):trimQ s=s:=by
 unfold trimQ
 rw[h];rfl
theorem wrap_small {n:Int} (h:0≤n) (h2:n≤1000000000000000000):wrap64 n=n:=by
 have e:IntKind.i64.wrap n=wrap64 n:=by unfold wrap64;exact IntKind.wrap_i64 n
 rw[←e]
 simp[IntKind.wrap,IntKind.bits,IntKind.signed]
 omega
theorem trimF_size:∀ n s,(trimF n s).size≤s.size
 | 0,_=>Nat.le_refl _
 | n+1,s=>by
  rw[trimF]
  split
  ·refine Nat.le_trans (trimF_size n _) ?_
   rw[ByteArray.size_extract];omega
  ·exact Nat.le_refl _
theorem trimQ_size (s:ByteArray):(trimQ s).size≤s.size:=trimF_size _ _
theorem sz_extract (t:ByteArray) {m:Nat} (h:t.size=m+1):(t.extract 0 m).size=m:=by rw[ByteArray.size_extract];omega
theorem trimR_prog (s:ByteArray) (w:World) (hs:s.size≤1000000000000000) :
  Calls Tryz.prog 108 #[.string s,.int .u8 39] w fun e w'=>e=.returned (.string (trimQ s))∧w'=w:=by
 go_enter Tryz.func108,Tryz.ntmps108
 go_wp2_with fail
 go_loopw [0] (fun v wr=>∃ t:ByteArray,v=.string t∧t.size≤s.size∧trimQ t=trimQ s∧wr=w) (fun v _=>match v with | .string t=>t.size | _=>0)
 case atStart=>exact⟨s,rfl,Nat.le_refl _,rfl,rfl⟩
 case round=>
  obtain⟨t,rfl,ht,hq,rfl⟩:=hrel
  have HQ:=Hd hq
  clear hq
  cases hm:t.size with
  | zero=>
   have HF:=Hd (trim_none hm)
   go_wp2_with fail
   go_ret
   exact⟨by rw[←HQ.out,HF.out];rfl,rfl⟩
  | succ m=>
   have hb:=byteN_at t m (by omega)
   have HM:=Hd hm
   have i0:(0:Int)≤(m:Int):=by omega
   have i1:(m:Int)<(m:Int)+1:=by omega
   have wr1:wrap64 (((m+1:Nat):Int) - 1)=(m:Int):=by rw[wrap_small (by omega) (by omega)];omega
   have wr3:wrap64 (m:Int)=(m:Int):=wrap_small (by omega) (by omega)
   have HSZ:=Hd (sz_extract t hm)
   by_cases h39:byteN t m=39
   ·have HG:=Hd (trim_go hm h39)
    have te:((byteN t m:Int) == 39)=true:=by simp;omega
    have HT:=Hd ht
    clear h39 ht
    generalize byteN t m=bb at hb te
    go_wp2_with fail
    refine⟨⟨t.extract 0 m,by first | rfl | (rw[wr3];rfl),by rw[HSZ.out];have:=HT.out;have:=HM.out;omega,by rw[←HG.out,HQ.out],by first | rfl | trivial⟩,?_⟩
    try rw[wr3]
    show (t.extract 0 m).size<t.size
    rw[HSZ.out,HM.out];omega
   ·have HF:=Hd (trim_stop hm h39)
    have te:((byteN t m:Int) == 39)=false:=by simp;omega
    have te2:(byteN t m == 39)=false:=by simpa using h39
    clear ht
    generalize byteN t m=bb at hb te te2 h39
    go_wp2_with fail
    go_ret
    exact⟨by rw[←HQ.out,HF.out];rfl,rfl⟩
theorem trim_prog (s:ByteArray) (w:World) (hs:s.size≤1000000000000000) :
  Calls Tryz.prog 80 #[.string s,.string ⟨#[39]⟩] w fun e w'=>e=.returned (.string (trimQ s))∧w'=w:=by
 cases hl:s.toList with
 | nil=>
  have HF:=Hd (trim_none (size_nil hl))
  have HQ:=Hd hl
  go_enter Tryz.func80,Tryz.ntmps80
  go_wp2_with fail
  go_ret
  exact⟨by rw[HF.out];rfl,rfl⟩
 | cons a l=>
  have KT:=Hd (trimR_prog s w hs)
  go_enter Tryz.func80,Tryz.ntmps80
  go_wp2_with fail
  refine KT.out.mono ?_
  rintro e w1 ⟨rfl,rfl⟩
  go_wp2_with fail
  go_ret
  exact⟨rfl,rfl⟩
theorem name_prog (s:ByteArray) (w:World) (hs:s.size≤1000000000000000) :
  Calls Tryz.prog 41 #[.string s] w fun e w'=>e=.returned (.bool (nameT s))∧Below w.heap.size w w':=by
 have KT:=Hd (trim_prog s w hs)
 have KI:=Hd (isname_prog (trimQ s) w (Nat.le_trans (trimQ_size s) hs))
 unfold nameT
 generalize idB (trimQ s)=r at KI ⊢
 generalize trimQ s=q at KT KI
 go_enter Tryz.func41,Tryz.ntmps41
 go_wp2_with fail
 refine KT.out.mono ?_
 rintro e w1 ⟨rfl,rfl⟩
 go_wp2_with fail
 refine KI.out.mono ?_
 rintro e w2 ⟨rfl,hb⟩
 have HB:=Hd hb
 clear hb
 go_wp2_with fail
 go_ret
 exact⟨rfl,HB.out⟩
theorem name_ref (s:ByteArray) (w:World) (hs:s.size≤1000000000000000) :
  Calls Tryz.prog 16 #[.string s] w fun e w'=>e=.returned (.bool (nameT s))∧Below w.heap.size w w':=by
 have KI:Hid (∀ t:ByteArray,t.size≤s.size→trimQ t=t→trimQ t=trimQ s→Calls Tryz.prog 39 #[.string t] w fun e w'=>e=.returned (.bool (nameT s))∧Below w.heap.size w w'):=Hd fun t ht h1 h2=>by
  unfold nameT
  rw[←h2,h1]
  exact isname_ref t w (Nat.le_trans ht hs)
 generalize nameT s=r at KI ⊢
 go_enter Tryz.func16,Tryz.ntmps16
 go_wp2_with fail
 go_loopw [0] (fun v wr=>∃ t:ByteArray,v=.string t∧t.size≤s.size∧trimQ t=trimQ s∧wr=w) (fun v _=>match v with | .string t=>t.size | _=>0)
 case atStart=>exact⟨s,rfl,Nat.le_refl _,rfl,rfl⟩
 case round=>
  obtain⟨t,rfl,ht,hq,rfl⟩:=hrel
  have HQ:=Hd hq
  clear hq
  cases hm:t.size with
  | zero=>
   have KT:=Hd (KI.out t ht (trim_none hm) HQ.out)
   clear ht
   go_wp2_with fail
   refine KT.out.mono ?_
   rintro e w2 ⟨rfl,hb⟩
   have HB:=Hd hb
   clear hb
   go_wp2_with fail
   go_ret
   exact⟨rfl,HB.out⟩
  | succ m=>
   have hb:=byteN_at t m (by omega)
   have HM:=Hd hm
   have i0:(0:Int)≤(m:Int):=by omega
   have i1:(m:Int)<(m:Int)+1:=by omega
   have wr1:wrap64 (((m+1:Nat):Int) - 1)=(m:Int):=by rw[wrap_small (by omega) (by omega)];omega
   have wr3:wrap64 (m:Int)=(m:Int):=wrap_small (by omega) (by omega)
   have HSZ:=Hd (sz_extract t hm)
   by_cases h39:byteN t m=39
   ·have HG:=Hd (trim_go hm h39)
    have te:((byteN t m:Int) == 39)=true:=by simp;omega
    have HT:=Hd ht
    clear h39 ht
    generalize byteN t m=bb at hb te
    go_wp2_with fail
    refine⟨⟨t.extract 0 m,by first | rfl | (rw[wr3];rfl),by rw[HSZ.out];have:=HT.out;have:=HM.out;omega,by rw[←HG.out,HQ.out],by first | rfl | trivial⟩,?_⟩
    try rw[wr3]
    show (t.extract 0 m).size<t.size
    rw[HSZ.out,HM.out];omega
   ·have KT:=Hd (KI.out t ht (trim_stop hm h39) HQ.out)
    have te:((byteN t m:Int) == 39)=false:=by simp;omega
    have te2:(byteN t m == 39)=false:=by simpa using h39
    clear ht
    generalize byteN t m=bb at hb te te2 h39
    go_wp2_with fail
    refine KT.out.mono ?_
    rintro e w2 ⟨rfl,hb⟩
    have HB:=Hd hb
    clear hb
    go_wp2_with fail
    go_ret
    exact⟨rfl,HB.out⟩
theorem all_fields {α:Type} (E:α→List Tok) (hE:∀ x y,Clean (E x) (E y) (lexC (E x) (E y))) (R R':α→World→Nat→Nat→Prop) (hR:∀ x w w' b o,Below w.heap.size w w'→R x w b o→R x w' b o) (hR':∀ x w w' b o,Below w.heap.size w w'→R' x w b o→R' x w' b o)
  (l l':List α) (hl:∀ x∈l,∀ y,OrdP 147 (R x) (R' y) (lexC (E x) (E y))) (A A':Option Addr) (c c':Nat) (w:World) (b o b' o':Nat) (hA:0<l.length→A=some ⟨b,o,none⟩) (hA':0<l'.length→A'=some ⟨b',o',none⟩) (hlen:l.length≤1000000000000000) (_hlen':l'.length≤1000000000000000)
  (hx:∀ i (h:i<l.length),R l[i] w b (o+i*8)) (hx':∀ i (h:i<l'.length),R' l'[i] w b' (o'+i*8)) :
  Calls Tryz.prog 146 #[.slice A l.length c,.slice A' l'.length c',.func (.func 147) #[] #[]] w fun e w'=>e=.returned (.int .i64 (lexC (rowE E l) (rowE E l')))∧Gw w w':=by
 by_cases heq:l.length=l'.length
 case neg=>
  rw[row_len E heq]
  have tc:(cmpZ l.length l'.length != 0)=true:=by
   rw[bne_iff_ne]
   exact fun h=>heq (by have:=cmpZ_zero h;omega)
  have KC:=Hd (compare_i (l.length:Int) (l'.length:Int))
  generalize cmpZ (l.length:Int) (l'.length:Int)=cz at tc KC
  clear heq hx hx' hl hR hR' hA hA'
  go_enter Tryz.func146,Tryz.ntmps146
  go_wp2_with fail
  refine (KC.out _).mono ?_
  rintro e w1 ⟨rfl,rfl⟩
  go_wp2_with fail
  go_ret
  exact⟨rfl,Gw.refl _⟩
 rw[row_same E heq]
 have HE:=Hd hE
 have HR:=Hd hR
 have HR':=Hd hR'
 have HO:=Hd hl
 have HA:=Hd hA
 have HA':=Hd hA'
 have HX:=Hd hx
 have HX':=Hd hx'
 have HBg:=Hd hlen
 have HQ:=Hd heq
 have KC:=Hd (compare_i (l.length:Int) (l'.length:Int))
 rw[show cmpZ (l.length:Int) (l'.length:Int)=0 from by rw[heq];exact cmpZ_self _] at KC
 generalize hres:restC E l l' 0=res
 have HRes:=Hd hres
 clear hE hR hR' hl hA hA' hx hx' hres
 obtain⟨m,hm⟩:∃ m,m=l.length:=⟨_,rfl⟩
 obtain⟨m',hm'⟩:∃ m',m'=l'.length:=⟨_,rfl⟩
 rw[←hm,←hm'] at heq KC
 rw[←hm,←hm']
 rw[←hm] at hlen HBg
 have HM:=Hd (And.intro hm hm')
 subst heq
 clear _hlen' hm hm'
 go_enter Tryz.func146,Tryz.ntmps146
 go_wp2_with fail
 refine (KC.out _).mono ?_
 rintro e w1 ⟨rfl,rfl⟩
 go_wp2_with fail
 go_loopw [20] (fun v wr=>∃ n:Nat,n≤m∧v=.int .i64 n∧Gw w wr∧restC E l l' n=res) (fun v _=>m - (intOf v).toNat)
 case atStart=>exact⟨0,by omega,rfl,Gw.refl _,HRes.out⟩
 case round=>
  obtain⟨n,hn,rfl,hb,hrest⟩:=hrel
  have HB:=Hd hb
  have HRst:=Hd hrest
  clear hb hrest
  by_cases hlt:n<m
  case neg=>
   obtain rfl:n=m:=by omega
   have tl:decide ((n:Int)<(n:Int))=false:=by simp
   have h0:res=0:=by rw[←HRst.out,HM.out.1];exact rest_end E HQ.out
   have H0:=Hd h0
   clear hlt h0
   go_wp2_with fail
   go_ret
   exact⟨by rw[H0.out];rfl,HB.out⟩
  have tl:decide ((n:Int)<(m:Int))=true:=by simp;omega
  have hn1:n<l.length:=by rw[←HM.out.1];exact hlt
  have hn2:n<l'.length:=by rw[←HM.out.2];exact hlt
  have hA:=HA.out (by omega)
  have hA':=HA'.out (by omega)
  subst hA hA'
  have HL:=Hd hlt
  have hstep:=rest_step E HE.out HQ.out hn1 hn2
  rw[HRst.out] at hstep
  have K7:=Hd ((HO.out l[n] (List.getElem_mem hn1) l'[n]).ok wr.drew b (o+n*8) b' (o'+n*8) (HR.out _ _ _ _ _ HB.out.drew.below (HX.out n hn1)) (HR'.out _ _ _ _ _ HB.out.drew.below (HX'.out n hn2)))
  generalize lexC (E l[n]) (E l'[n])=c7 at hstep K7
  have HNext:Hid (c7=0→restC E l l' (n+1)=res):=Hd fun h=>by rw[hstep,h,or2_zero]
  have HStop:Hid (c7≠0→res=c7):=Hd fun h=>by rw[hstep,or2_ne h]
  have hltn:n<m:=hlt
  clear hstep hlt hn1 hn2
  go_wp2_with fail
  go_wp2_with fail
  refine wp_region_held_drew (S:=(fun _=>True)) (by kernel_rfl) trivial (fun hHeld=>?_)
  refine Plan.start [0,1,2,3,4,5,6] ?_
  iterate 7 (refine Plan.tk (so rfl) hHeld ?_;try simp only[Act.put,pz1,pz2,pz3])
  refine Plan.done ?_
  refine wpAnyH_ready (rs:=[7]) (by kernel_rfl) (by simp) ?_
  refine AllReadyH.cons (sd (some 30) rfl) (fun K hK=>?_) AllReadyH.nil
  go_simp
  refine K7.out.mono ?_
  rintro e w7 ⟨rfl,hb7⟩
  have HB7:=Hd hb7
  clear hb7
  go_wp2_with fail
  refine hK.out _ _ (trivial) (fun hHeld=>?_)
  clear hK K
  try simp only[Act.put,pz1,pz2,pz3]
  refine Plan.start [8] ?_
  refine Plan.tk (so rfl) hHeld ?_
  try simp only[Act.put,pz1,pz2,pz3]
  refine Plan.done ?_
  refine wpAnyH_done (by kernel_rfl) ?_ _
  clear hHeld
  by_cases hc:c7=0
  ·have tc:(c7 != 0)=false:=by simpa using hc
   have HR2:=Hd (HNext.out hc)
   clear hc
   go_wp2_with fail
   refine⟨⟨n+1,HL.out,by go_num,HB.out.drew.trans HB7.out,HR2.out⟩,?meas⟩
   case meas=>exact measT HL.out
  ·have tc:(c7 != 0)=true:=by simpa using hc
   have HR2:=Hd (HStop.out hc)
   clear hc
   go_wp2_with fail
   go_ret
   exact⟨by rw[←HR2.out];rfl,HB.out.drew.trans HB7.out⟩
theorem all_vars {α:Type} (E:α→List Tok) (hE:∀ x y,Clean (E x) (E y) (lexC (E x) (E y))) (R R':α→World→Nat→Nat→Prop) (hR:∀ x w w' b o,Below w.heap.size w w'→R x w b o→R x w' b o) (hR':∀ x w w' b o,Below w.heap.size w w'→R' x w b o→R' x w' b o)
  (l l':List α) (hl:∀ x∈l,∀ y,OrdP 149 (R x) (R' y) (lexC (E x) (E y))) (A A':Option Addr) (c c':Nat) (w:World) (b o b' o':Nat) (hA:0<l.length→A=some ⟨b,o,none⟩) (hA':0<l'.length→A'=some ⟨b',o',none⟩) (hlen:l.length≤1000000000000000) (_hlen':l'.length≤1000000000000000)
  (hx:∀ i (h:i<l.length),R l[i] w b (o+i*2)) (hx':∀ i (h:i<l'.length),R' l'[i] w b' (o'+i*2)) :
  Calls Tryz.prog 148 #[.slice A l.length c,.slice A' l'.length c',.func (.func 149) #[] #[]] w fun e w'=>e=.returned (.int .i64 (lexC (rowE E l) (rowE E l')))∧Gw w w':=by
 by_cases heq:l.length=l'.length
 case neg=>
  rw[row_len E heq]
  have tc:(cmpZ l.length l'.length != 0)=true:=by
   rw[bne_iff_ne]
   exact fun h=>heq (by have:=cmpZ_zero h;omega)
  have KC:=Hd (compare_i (l.length:Int) (l'.length:Int))
  generalize cmpZ (l.length:Int) (l'.length:Int)=cz at tc KC
  clear heq hx hx' hl hR hR' hA hA'
  go_enter Tryz.func148,Tryz.ntmps148
  go_wp2_with fail
  refine (KC.out _).mono ?_
  rintro e w1 ⟨rfl,rfl⟩
  go_wp2_with fail
  go_ret
  exact⟨rfl,Gw.refl _⟩
 rw[row_same E heq]
 have HE:=Hd hE
 have HR:=Hd hR
 have HR':=Hd hR'
 have HO:=Hd hl
 have HA:=Hd hA
 have HA':=Hd hA'
 have HX:=Hd hx
 have HX':=Hd hx'
 have HBg:=Hd hlen
 have HQ:=Hd heq
 have KC:=Hd (compare_i (l.length:Int) (l'.length:Int))
 rw[show cmpZ (l.length:Int) (l'.length:Int)=0 from by rw[heq];exact cmpZ_self _] at KC
 generalize hres:restC E l l' 0=res
 have HRes:=Hd hres
 clear hE hR hR' hl hA hA' hx hx' hres
 obtain⟨m,hm⟩:∃ m,m=l.length:=⟨_,rfl⟩
 obtain⟨m',hm'⟩:∃ m',m'=l'.length:=⟨_,rfl⟩
 rw[←hm,←hm'] at heq KC
 rw[←hm,←hm']
 rw[←hm] at hlen HBg
 have HM:=Hd (And.intro hm hm')
 subst heq
 clear _hlen' hm hm'
 go_enter Tryz.func148,Tryz.ntmps148
 go_wp2_with fail
 refine (KC.out _).mono ?_
 rintro e w1 ⟨rfl,rfl⟩
 go_wp2_with fail
 go_loopw [20] (fun v wr=>∃ n:Nat,n≤m∧v=.int .i64 n∧Gw w wr∧restC E l l' n=res) (fun v _=>m - (intOf v).toNat)
 case atStart=>exact⟨0,by omega,rfl,Gw.refl _,HRes.out⟩
 case round=>
  obtain⟨n,hn,rfl,hb,hrest⟩:=hrel
  have HB:=Hd hb
  have HRst:=Hd hrest
  clear hb hrest
  by_cases hlt:n<m
  case neg=>
   obtain rfl:n=m:=by omega
   have tl:decide ((n:Int)<(n:Int))=false:=by simp
   have h0:res=0:=by rw[←HRst.out,HM.out.1];exact rest_end E HQ.out
   have H0:=Hd h0
   clear hlt h0
   go_wp2_with fail
   go_ret
   exact⟨by rw[H0.out];rfl,HB.out⟩
  have tl:decide ((n:Int)<(m:Int))=true:=by simp;omega
  have hn1:n<l.length:=by rw[←HM.out.1];exact hlt
  have hn2:n<l'.length:=by rw[←HM.out.2];exact hlt
  have hA:=HA.out (by omega)
  have hA':=HA'.out (by omega)
  subst hA hA'
  have HL:=Hd hlt
  have hstep:=rest_step E HE.out HQ.out hn1 hn2
  rw[HRst.out] at hstep
  have K7:=Hd ((HO.out l[n] (List.getElem_mem hn1) l'[n]).ok wr.drew b (o+n*2) b' (o'+n*2) (HR.out _ _ _ _ _ HB.out.drew.below (HX.out n hn1)) (HR'.out _ _ _ _ _ HB.out.drew.below (HX'.out n hn2)))
  generalize lexC (E l[n]) (E l'[n])=c7 at hstep K7
  have HNext:Hid (c7=0→restC E l l' (n+1)=res):=Hd fun h=>by rw[hstep,h,or2_zero]
  have HStop:Hid (c7≠0→res=c7):=Hd fun h=>by rw[hstep,or2_ne h]
  have hltn:n<m:=hlt
  clear hstep hlt hn1 hn2
  go_wp2_with fail
  go_wp2_with fail
  refine wp_region_held_drew (S:=(fun _=>True)) (by kernel_rfl) trivial (fun hHeld=>?_)
  refine Plan.start [0,1,2,3,4,5,6] ?_
  iterate 7 (refine Plan.tk (so rfl) hHeld ?_;try simp only[Act.put,pz1,pz2,pz3])
  refine Plan.done ?_
  refine wpAnyH_ready (rs:=[7]) (by kernel_rfl) (by simp) ?_
  refine AllReadyH.cons (sd (some 30) rfl) (fun K hK=>?_) AllReadyH.nil
  go_simp
  refine K7.out.mono ?_
  rintro e w7 ⟨rfl,hb7⟩
  have HB7:=Hd hb7
  clear hb7
  go_wp2_with fail
  refine hK.out _ _ (trivial) (fun hHeld=>?_)
  clear hK K
  try simp only[Act.put,pz1,pz2,pz3]
  refine Plan.start [8] ?_
  refine Plan.tk (so rfl) hHeld ?_
  try simp only[Act.put,pz1,pz2,pz3]
  refine Plan.done ?_
  refine wpAnyH_done (by kernel_rfl) ?_ _
  clear hHeld
  by_cases hc:c7=0
  ·have tc:(c7 != 0)=false:=by simpa using hc
   have HR2:=Hd (HNext.out hc)
   clear hc
   go_wp2_with fail
   refine⟨⟨n+1,HL.out,by go_num,HB.out.drew.trans HB7.out,HR2.out⟩,?meas⟩
   case meas=>exact measT HL.out
  ·have tc:(c7 != 0)=true:=by simpa using hc
   have HR2:=Hd (HStop.out hc)
   clear hc
   go_wp2_with fail
   go_ret
   exact⟨by rw[←HR2.out];rfl,HB.out.drew.trans HB7.out⟩
def sortTy_ren:Go.Shelf.Ren:=⟨fun | 6=>100 | 15=>140 | 14=>139 | 28=>177 | 29=>178 | 20=>169 | 21=>170 | 22=>171 | 23=>172 | 24=>173 | 25=>174 | 26=>175 | 27=>176 | 46=>200 | 47=>201 | 48=>202 | 49=>203 | 50=>204 | 57=>215 | n=>n,fun | 22=>22 | 24=>26 | 25=>49 | 3=>3 | 39=>171 | 0=>0 | 53=>218 | 55=>220 | 4=>4 | 46=>211 | 45=>210 | 50=>215 | 5=>5 | 9=>9 | 66=>235 | 70=>127 | 76=>246 | 77=>247 | n=>n,fun n=>n⟩
theorem sortTy:Go.Proofs.SlLaysF0.n6 Tryz.prog sortTy_ren:={
 mixed:=by kernel_rfl
 f6:=⟨ "slices.SortFunc[[]plinth/api.Type,plinth/api.Type]",by decide,Tryz.func100.trans (congrArg some (by kernel_rfl))⟩
 f14:=⟨ "slices.pdqsortCmpFunc[plinth/api.Type]",by decide,Tryz.func139.trans (congrArg some (by kernel_rfl))⟩
 f15:=Tryz.func140.trans (congrArg some (by kernel_rfl))
 f20:=⟨ "slices.insertionSortCmpFunc[plinth/api.Type]",by decide,Tryz.func169.trans (congrArg some (by kernel_rfl))⟩
 f21:=⟨ "slices.heapSortCmpFunc[plinth/api.Type]",by decide,Tryz.func170.trans (congrArg some (by kernel_rfl))⟩
 f22:=⟨ "slices.breakPatternsCmpFunc[plinth/api.Type]",by decide,Tryz.func171.trans (congrArg some (by kernel_rfl))⟩
 f23:=⟨ "slices.choosePivotCmpFunc[plinth/api.Type]",by decide,Tryz.func172.trans (congrArg some (by kernel_rfl))⟩
 f24:=⟨ "slices.reverseRangeCmpFunc[plinth/api.Type]",by decide,Tryz.func173.trans (congrArg some (by kernel_rfl))⟩
 f25:=⟨ "slices.partialInsertionSortCmpFunc[plinth/api.Type]",by decide,Tryz.func174.trans (congrArg some (by kernel_rfl))⟩
 f26:=⟨ "slices.partitionEqualCmpFunc[plinth/api.Type]",by decide,Tryz.func175.trans (congrArg some (by kernel_rfl))⟩
 f27:=⟨ "slices.partitionCmpFunc[plinth/api.Type]",by decide,Tryz.func176.trans (congrArg some (by kernel_rfl))⟩
 f28:=Tryz.func177.trans (congrArg some (by kernel_rfl))
 f29:=Tryz.func178.trans (congrArg some (by kernel_rfl))
 f46:=⟨ "slices.siftDownCmpFunc[plinth/api.Type]",by decide,Tryz.func200.trans (congrArg some (by kernel_rfl))⟩
 f47:=Tryz.func201.trans (congrArg some (by kernel_rfl))
 f48:=Tryz.func202.trans (congrArg some (by kernel_rfl))
 f49:=⟨ "slices.medianAdjacentCmpFunc[plinth/api.Type]",by decide,Tryz.func203.trans (congrArg some (by kernel_rfl))⟩
 f50:=⟨ "slices.medianCmpFunc[plinth/api.Type]",by decide,Tryz.func204.trans (congrArg some (by kernel_rfl))⟩
 f57:=⟨ "slices.order2CmpFunc[plinth/api.Type]",by decide,Tryz.func215.trans (congrArg some (by kernel_rfl))⟩
 t0:=Tryz.underlying0
 a0:=Tryz.isAgg0
 z0:=Tryz.sizeOf0
 v0:=Tryz.zeroValue0
 t3:=Tryz.underlying3
 a3:=Tryz.isAgg3
 z3:=Tryz.sizeOf3
 v3:=Tryz.zeroValue3
 t4:=Tryz.underlying4
 a4:=Tryz.isAgg4
 z4:=Tryz.sizeOf4
 v4:=Tryz.zeroValue4
 t5:=Tryz.underlying5
 a5:=Tryz.isAgg5
 z5:=Tryz.sizeOf5
 v5:=Tryz.zeroValue5
 t9:=Tryz.underlying9
 a9:=Tryz.isAgg9
 z9:=Tryz.sizeOf9
 v9:=Tryz.zeroValue9
 t22:=Tryz.underlying22
 a22:=Tryz.isAgg22
 z22:=Tryz.sizeOf22
 v22:=Tryz.zeroValue22
 t25:=Tryz.underlying49
 a25:=Tryz.isAgg49
 z25:=Tryz.sizeOf49
 v25:=Tryz.zeroValue49
 t39:=Tryz.underlying171
 a39:=Tryz.isAgg171
 z39:=Tryz.sizeOf171
 v39:=Tryz.zeroValue171
 t45:=Tryz.underlying210
 a45:=Tryz.isAgg210
 z45:=Tryz.sizeOf210
 v45:=Tryz.zeroValue210
 t46:=Tryz.underlying211
 a46:=Tryz.isAgg211
 z46:=Tryz.sizeOf211
 v46:=Tryz.zeroValue211
 t50:=Tryz.underlying215
 a50:=Tryz.isAgg215
 z50:=Tryz.sizeOf215
 v50:=Tryz.zeroValue215
 t53:=Tryz.underlying218
 a53:=Tryz.isAgg218
 z53:=Tryz.sizeOf218
 v53:=Tryz.zeroValue218
 t55:=Tryz.underlying220
 a55:=Tryz.isAgg220
 z55:=Tryz.sizeOf220
 v55:=Tryz.zeroValue220
 t66:=Tryz.underlying235
 a66:=Tryz.isAgg235
 z66:=Tryz.sizeOf235
 v66:=Tryz.zeroValue235
 t70:=Tryz.underlying127
 a70:=Tryz.isAgg127
 z70:=Tryz.sizeOf127
 v70:=Tryz.zeroValue127
 t76:=Tryz.underlying246
 a76:=Tryz.isAgg246
 z76:=Tryz.sizeOf246
 v76:=Tryz.zeroValue246
 t77:=Tryz.underlying247
 a77:=Tryz.isAgg247
 z77:=Tryz.sizeOf247
 v77:=Tryz.zeroValue247
}
def OrdT (t:Ty):Prop:=∀ (K K':Nat→Prop) (t':Ty),OrdP 104 (fun w b o=>AtT K w t b o) (fun w b o=>AtT K' w t' b o) (ordT t t')
theorem list_any (l l':List Ty) (h:∀ p∈l,OrdT p) {K K':Nat→Prop} {w:World} {A A':Option Addr} {c c':Nat} (h1:ListT K w l A c) (h2:ListT K' w l' A' c') :
  Calls Tryz.prog 145 #[.slice A l.length c,.slice A' l'.length c',.func (.func 104) #[] #[]] w fun e w'=>e=.returned (.int .i64 (lexC (flatL l) (flatL l')))∧Gw w w':=by
 obtain⟨b,o,hr,hx⟩:=h1
 obtain⟨b',o',hr',hx'⟩:=h2
 exact all_types flat cleanT (fun x w b o=>AtT K w x b o) (fun x w b o=>AtT K' w x b o) (fun _ _ _ _ _ hb h=>h.later hb) (fun _ _ _ _ _ hb h=>h.later hb) l l' (fun x hx y=>h x hx K K' y) A A' c c' w b o b' o' (fun h=>(hr.some h).1) (fun h=>(hr'.some h).1) (hr.big) (hr'.big) hx hx'
def FieldAt (K:Nat→Prop) (f:ByteArray×Int×Ty) (w:World) (b o:Nat):Prop:=w.cell? ⟨b,o,none⟩=some (.string f.1)∧w.cell? ⟨b,o+1,none⟩=some (.int .i64 f.2.1)∧AtT K w f.2.2 b (o+2)
theorem FieldAt.later {K:Nat→Prop} {f:ByteArray×Int×Ty} {w w':World} {b o:Nat} (h:FieldAt K f w b o) (hb:Below w.heap.size w w'):FieldAt K f w' b o:=⟨cell_stays hb h.1,cell_stays hb h.2.1,h.2.2.later hb⟩
def VarAt (K:Nat→Prop) (v:ByteArray×List Ty) (w:World) (b o:Nat):Prop:=∃ B d,w.cell? ⟨b,o,none⟩=some (.string v.1)∧w.cell? ⟨b,o+1,none⟩=some (.slice B v.2.length d)∧ListT K w v.2 B d
theorem VarAt.later {K:Nat→Prop} {v:ByteArray×List Ty} {w w':World} {b o:Nat} (h:VarAt K v w b o) (hb:Below w.heap.size w w'):VarAt K v w' b o:=by
 obtain⟨B,d,h1,h2,h3⟩:=h
 exact⟨B,d,cell_stays hb h1,cell_stays hb h2,h3.later hb⟩
theorem vars_one (v:ByteArray×List Ty) (h:∀ b∈v.2,OrdT b) (K K':Nat→Prop) (v':ByteArray×List Ty):OrdP 149 (VarAt K v) (VarAt K' v') (lexC (Tok.s v.1 :: flatL v.2) (.s v'.1 :: flatL v'.2)):=by
 refine⟨fun w b o b' o' h1 h2=>?_⟩
 rw[var_steps]
 obtain⟨vn,vl⟩:=v
 obtain⟨vn',vl'⟩:=v'
 obtain⟨B,d,a0,a1,a2⟩:=h1
 obtain⟨B',d',b0,b1,b2⟩:=h2
 have KL:=Hd (list_any vl vl' h (w:=w.drew.drew) (a2.later (Below.refl _ _).drew.drew) (b2.later (Below.refl _ _).drew.drew))
 have HS:=Hd (And.intro a1 b1)
 have HS1:=Hd (And.intro a0 b0)
 simp only at HS HS1 KL ⊢
 have KC:=Hd (fun w=>compare_s vn vn' w)
 generalize cmpB vn vn'=cn at KC ⊢
 generalize lexC (flatL vl) (flatL vl')=cl at KL ⊢
 clear h a0 a1 a2 b0 b1 b2
 go_enter Tryz.func149,Tryz.ntmps149
 go_wp2_with fail
 refine wp_region_held_drew (S:=(fun w'=>w'.cell? ⟨b,o,none⟩=some (.string vn)∧w'.cell? ⟨b',o',none⟩=some (.string vn'))) (by kernel_rfl) HS1.out (fun hHeld=>?_)
 refine Plan.start [0,1,2,3,4,5,6,7] ?_
 iterate 8 (refine Plan.tk (so rfl) hHeld ?_;try simp only[Act.put,pz1,pz2,pz3])
 refine Plan.done ?_
 refine wpAnyH_ready (rs:=[8]) (by kernel_rfl) (by simp) ?_
 refine AllReadyH.cons (sd (some 14) rfl) (fun K hK=>?_) AllReadyH.nil
 go_simp
 refine (KC.out _).mono ?_
 rintro e w2 ⟨rfl,rfl⟩
 go_wp2_with fail
 refine hK.out _ _ (HS1.out) (fun hHeld=>?_)
 clear hK K
 try simp only[Act.put,pz1,pz2,pz3]
 refine Plan.start [9] ?_
 refine Plan.tk (so rfl) hHeld ?_
 try simp only[Act.put,pz1,pz2,pz3]
 refine Plan.done ?_
 refine wpAnyH_done (by kernel_rfl) ?_ _
 clear hHeld
 by_cases hc:cn=0
 case neg=>
  have tc:(cn != 0)=true:=by simpa using hc
  have HC:=Hd hc
  clear hc
  go_wp2_with fail
  go_ret
  exact⟨by rw[or2_ne HC.out];rfl,(Gw.refl w).drew⟩
 have tc:(cn != 0)=false:=by simpa using hc
 have HC0:=Hd hc
 clear hc
 go_wp2_with fail
 refine wp_region_held_drew (S:=(fun w'=>w'.cell? ⟨b,o+1,none⟩=some (.slice B vl.length d)∧w'.cell? ⟨b',o'+1,none⟩=some (.slice B' vl'.length d'))) (by kernel_rfl) HS.out (fun hHeld=>?_)
 refine Plan.start [0,1,2,3,4,5,6,7] ?_
 iterate 8 (refine Plan.tk (so rfl) hHeld ?_;try simp only[Act.put,pz1,pz2,pz3])
 refine Plan.done ?_
 refine wpAnyH_ready (rs:=[8]) (by kernel_rfl) (by simp) ?_
 refine AllReadyH.cons (sd (some 26) rfl) (fun K hK=>?_) AllReadyH.nil
 go_simp
 refine KL.out.mono ?_
 rintro e w4 ⟨rfl,hb4⟩
 have HB4:Hid (Gw w w4):=Hd ((Gw.refl w).drew.drew.trans hb4)
 have HS4:=Hd (And.intro (cell_stays HB4.out.below HS.out.1) (cell_stays HB4.out.below HS.out.2))
 clear hb4
 go_wp2_with fail
 refine hK.out _ _ (HS4.out) (fun hHeld=>?_)
 clear hK K
 try simp only[Act.put,pz1,pz2,pz3]
 refine Plan.start [9] ?_
 refine Plan.tk (so rfl) hHeld ?_
 try simp only[Act.put,pz1,pz2,pz3]
 refine Plan.done ?_
 refine wpAnyH_done (by kernel_rfl) ?_ _
 clear hHeld
 go_wp2_with fail
 go_ret
 exact⟨by rw[HC0.out,or2_zero];rfl,HB4.out⟩
theorem field_one (f:ByteArray×Int×Ty) (h:OrdT f.2.2) (K K':Nat→Prop) (f':ByteArray×Int×Ty):OrdP 147 (FieldAt K f) (FieldAt K' f') (lexC ([Tok.s f.1,.i f.2.1]++flat f.2.2) ([.s f'.1,.i f'.2.1]++flat f'.2.2)):=by
 refine⟨fun w b o b' o' h1 h2=>?_⟩
 rw[field_steps]
 obtain⟨fn,fi,ft⟩:=f
 obtain⟨fn',fi',ft'⟩:=f'
 obtain⟨a0,a1,a2⟩:=h1
 obtain⟨b0,b1,b2⟩:=h2
 simp only at a0 a1 a2 b0 b1 b2 h ⊢
 rw[←or2_assoc]
 have KA:=Hd (fun w=>compare_s fn fn' w)
 have KB:=Hd (fun w=>compare_i fi fi' w)
 generalize cmpB fn fn'=ca at KA ⊢
 generalize cmpZ fi fi'=cb at KB ⊢
 have HBx:Hid (Gw w (w.alloc (.cells #[.int .i64 ca,.int .i64 cb] 3)).drew):=Hd ((Gw.refl _).alloc _).drew
 have KL:=Hd ((h K K' ft').ok (w.alloc (.cells #[.int .i64 ca,.int .i64 cb] 3)).drew.drew b (o+2) b' (o'+2) (a2.later HBx.out.drew.below) (b2.later HBx.out.drew.below))
 generalize ordT ft ft'=cl at KL ⊢
 have HS1:Hid (w.drew.cell? ⟨b,o,none⟩=some (.string fn)∧w.drew.cell? ⟨b',o',none⟩=some (.string fn')∧w.drew.cell? ⟨b,o+1,none⟩=some (.int .i64 fi)∧w.drew.cell? ⟨b',o'+1,none⟩=some (.int .i64 fi')):=Hd ⟨a0,b0,a1,b1⟩
 have HK3:Hid ((w.alloc (.cells #[.int .i64 ca,.int .i64 cb] 3)).drew.cell? ⟨b,o,none⟩=some (.string fn)∧(w.alloc (.cells #[.int .i64 ca,.int .i64 cb] 3)).drew.cell? ⟨b',o',none⟩=some (.string fn')∧(w.alloc (.cells #[.int .i64 ca,.int .i64 cb] 3)).drew.cell? ⟨b,o+1,none⟩=some (.int .i64 fi)∧(w.alloc (.cells #[.int .i64 ca,.int .i64 cb] 3)).drew.cell? ⟨b',o'+1,none⟩=some (.int .i64 fi')):=Hd ⟨cell_stays HBx.out.below a0,cell_stays HBx.out.below b0,cell_stays HBx.out.below a1,cell_stays HBx.out.below b1⟩
 clear h a0 a1 a2 b0 b1 b2
 go_enter Tryz.func147,Tryz.ntmps147
 go_wp2_with fail
 refine wp_region_held_drew (S:=(fun w'=>w'.cell? ⟨b,o,none⟩=some (.string fn)∧w'.cell? ⟨b',o',none⟩=some (.string fn')∧w'.cell? ⟨b,o+1,none⟩=some (.int .i64 fi)∧w'.cell? ⟨b',o'+1,none⟩=some (.int .i64 fi'))) (by kernel_rfl) HS1.out (fun hHeld=>?_)
 refine Plan.start [0,1,2,3,4,5,6,7,9,10,11,12,13,14,15,16] ?_
 iterate 16 (refine Plan.tk (so rfl) hHeld ?_;try simp only[Act.put,pz1,pz2,pz3])
 refine Plan.done ?_
 refine wpAnyH_ready (rs:=[8]) (by kernel_rfl) (by simp) ?_
 refine AllReadyH.cons (sd (some 14) rfl) (fun K hK=>?_) AllReadyH.nil
 go_simp
 refine (KA.out _).mono ?_
 rintro e w2 ⟨rfl,rfl⟩
 go_wp2_with fail
 refine hK.out _ _ (HS1.out) (fun hHeld=>?_)
 clear hK K
 try simp only[Act.put,pz1,pz2,pz3]
 refine wpAnyH_ready (rs:=[17]) (by kernel_rfl) (by simp) ?_
 refine AllReadyH.cons (sd (some 23) rfl) (fun K hK=>?_) AllReadyH.nil
 go_simp
 refine (KB.out _).mono ?_
 rintro e w2 ⟨rfl,rfl⟩
 go_wp2_with fail
 refine hK.out _ _ (HS1.out) (fun hHeld=>?_)
 clear hK K
 try simp only[Act.put,pz1,pz2,pz3]
 refine wpAnyH_ready (rs:=[18]) (by kernel_rfl) (by simp) ?_
 refine AllReadyH.cons (sd (some 24) rfl) (fun K hK=>?_) AllReadyH.nil
 go_simp
 refine hK.out _ _ (HK3.out) (fun hHeld=>?_)
 clear hK K
 try simp only[Act.put,pz1,pz2,pz3]
 refine wpAnyH_ready (rs:=[19]) (by kernel_rfl) (by simp) ?_
 refine AllReadyH.cons (sd (some 25) rfl) (fun K hK=>?_) AllReadyH.nil
 go_simp
 refine (or_2 _ _ _ _ (boxZ2 w ca cb).1 (boxZ2 w ca cb).2).mono ?_
 rintro e w2 ⟨rfl,rfl⟩
 go_wp2_with fail
 refine hK.out _ _ (HK3.out) (fun hHeld=>?_)
 clear hK K
 try simp only[Act.put,pz1,pz2,pz3]
 refine Plan.start [20] ?_
 refine Plan.tk (so rfl) hHeld ?_
 try simp only[Act.put,pz1,pz2,pz3]
 refine Plan.done ?_
 refine wpAnyH_done (by kernel_rfl) ?_ _
 clear hHeld
 by_cases hc:or2 ca cb=0
 case neg=>
  have tc:(or2 ca cb != 0)=true:=by simpa using hc
  have HC:=Hd hc
  clear hc
  go_wp2_with fail
  go_ret
  exact⟨by rw[or2_ne HC.out];rfl,HBx.out⟩
 have tc:(or2 ca cb != 0)=false:=by simpa using hc
 have HC0:=Hd hc
 clear hc
 go_wp2_with fail
 refine wp_region_held_drew (S:=(fun _=>True)) (by kernel_rfl) trivial (fun hHeld=>?_)
 refine Plan.start [0,1,2,3,4,5] ?_
 iterate 6 (refine Plan.tk (so rfl) hHeld ?_;try simp only[Act.put,pz1,pz2,pz3])
 refine Plan.done ?_
 refine wpAnyH_ready (rs:=[6]) (by kernel_rfl) (by simp) ?_
 refine AllReadyH.cons (sd (some 35) rfl) (fun K hK=>?_) AllReadyH.nil
 go_simp
 refine KL.out.mono ?_
 rintro e w4 ⟨rfl,hb4⟩
 have HB4:Hid (Gw w w4):=Hd (HBx.out.drew.trans hb4)
 clear hb4
 go_wp2_with fail
 refine hK.out _ _ (trivial) (fun hHeld=>?_)
 clear hK K
 try simp only[Act.put,pz1,pz2,pz3]
 refine Plan.start [7] ?_
 refine Plan.tk (so rfl) hHeld ?_
 try simp only[Act.put,pz1,pz2,pz3]
 refine Plan.done ?_
 refine wpAnyH_done (by kernel_rfl) ?_ _
 clear hHeld
 go_wp2_with fail
 go_ret
 exact⟨by rw[HC0.out,or2_zero];rfl,HB4.out⟩
theorem fields_any (l l':FsT) (h:∀ f∈l,OrdT f.2.2) {K K':Nat→Prop} {w:World} {A A':Option Addr} {c c':Nat} (h1:ListF K w l A c) (h2:ListF K' w l' A' c') :
  Calls Tryz.prog 146 #[.slice A l.length c,.slice A' l'.length c',.func (.func 147) #[] #[]] w fun e w'=>e=.returned (.int .i64 (lexC (flatF l) (flatF l')))∧Gw w w':=by
 obtain⟨b,o,hr,hx⟩:=h1
 obtain⟨b',o',hr',hx'⟩:=h2
 exact all_fields (fun f=>[.s f.1,.i f.2.1]++flat f.2.2) cleanFd (fun x w b o=>FieldAt K x w b o) (fun x w b o=>FieldAt K' x w b o) (fun _ _ _ _ _ hb h=>h.later hb) (fun _ _ _ _ _ hb h=>h.later hb) l l' (fun x hx y=>field_one x (h x hx) K K' y) A A' c c' w b o b' o' (fun h=>(hr.some h).1) (fun h=>(hr'.some h).1) (hr.big) (hr'.big) (fun i hi=>⟨(hx i hi).1,(hx i hi).2.1,(hx i hi).2.2.2⟩) (fun i hi=>⟨(hx' i hi).1,(hx' i hi).2.1,(hx' i hi).2.2.2⟩)
theorem vars_any (l l':VsT) (h:∀ v∈l,∀ b∈v.2,OrdT b) {K K':Nat→Prop} {w:World} {A A':Option Addr} {c c':Nat} (h1:ListV K w l A c) (h2:ListV K' w l' A' c') :
  Calls Tryz.prog 148 #[.slice A l.length c,.slice A' l'.length c',.func (.func 149) #[] #[]] w fun e w'=>e=.returned (.int .i64 (lexC (flatV l) (flatV l')))∧Gw w w':=by
 obtain⟨b,o,hr,hx⟩:=h1
 obtain⟨b',o',hr',hx'⟩:=h2
 exact all_vars (fun v=>.s v.1 :: flatL v.2) cleanVr (fun x w b o=>VarAt K x w b o) (fun x w b o=>VarAt K' x w b o) (fun _ _ _ _ _ hb h=>h.later hb) (fun _ _ _ _ _ hb h=>h.later hb) l l' (fun x hx y=>vars_one x (h x hx) K K' y) A A' c c' w b o b' o' (fun h=>(hr.some h).1) (fun h=>(hr'.some h).1) (hr.big) (hr'.big)
  (fun i hi=>by obtain⟨B,d,x0,x1,_,x3⟩:=hx i hi;exact⟨B,d,x0,x1,x3⟩) (fun i hi=>by obtain⟨B,d,x0,x1,_,x3⟩:=hx' i hi;exact⟨B,d,x0,x1,x3⟩)
end Go.Proofs.YtlpfpehegddcfaaGreatDoor
