import Derived.Test.YtlpfpehegddcfaaGreatDoorMn10
namespace Go.Proofs.YtlpfpehegddcfaaGreatDoor
set_option maxRecDepth 100000
set_option maxHeartbeats 64000000
open Go.RowKit
def okU (l:List Ty) (i:Nat):Bool:=match l[i]? with
 | none=>true
 | some t=>!(t.k == 15) && (match i with | 0=>true | j+1=>match l[j]? with | none=>true | some p=>decide (ordT p t<0))
def isUB (l:List Ty):Bool:=(List.range l.length).all (okU l) && l.all (keepT (kindsOf l))
theorem okU_all {l:List Ty} {i:Nat}:(∀ j,j<i+1→okU l j=true)↔(∀ j,j<i→okU l j=true)∧okU l i=true:=
 ⟨fun h=>⟨fun j hj=>h j (by omega),h i (by omega)⟩,fun h j hj=>by rcases Nat.lt_or_ge j i with h1 | h1;exact h.1 j h1;rw[show j=i from by omega];exact h.2⟩
theorem range_all {n:Nat} {p:Nat→Bool}:(List.range n).all p=true↔∀ j,j<n→p j=true:=by simp[List.all_eq_true]
theorem isUB_no {l:List Ty} {i:Nat} (hi:i<l.length) (h:okU l i=false):isUB l=false:=by
 unfold isUB
 rw[Bool.and_eq_false_iff]
 exact .inl (Bool.eq_false_iff.2 fun h2=>by have:=range_all.1 h2 i hi;rw[h] at this;cases this)
theorem isUB_keep {l:List Ty} {i:Nat} (hi:i<l.length) (h:keepT (kindsOf l) l[i]=false):isUB l=false:=by
 unfold isUB
 rw[Bool.and_eq_false_iff]
 exact .inr (Bool.eq_false_iff.2 fun h2=>by have:=List.all_eq_true.1 h2 l[i] (List.getElem_mem hi);rw[h] at this;cases this)
theorem seeL_take {l:List Ty} {i:Nat} (h:i<l.length) (x:Kinds):seeL x (l.take (i+1))=seeK (seeL x (l.take i)) l[i].k:=by
 rw[List.take_succ_eq_append_getElem h,seeL_app];rfl
structure IsR (w wr:World) (l:List Ty) (i:Nat):Prop where
 le:i≤l.length
 ok:∀ j,j<i→okU l j=true
 kb:KB wr w.heap.size (seeL ⟨false,false,false,false⟩ (l.take i))
 below:Below w.heap.size w wr
theorem IsR.lt {w wr:World} {l:List Ty} {i:Nat} (h:IsR w wr l i):w.heap.size<wr.heap.size:=(Array.getElem?_eq_some_iff.1 h.kb).1
theorem IsR.next {w wr wy wz:World} {l:List Ty} {i:Nat} (h:IsR w wr l i) (hi:i<l.length) (hok:okU l i=true) (hy:Below wr.heap.size wr wy) (hk:KB wz w.heap.size (seeK (seeL ⟨false,false,false,false⟩ (l.take i)) l[i].k)) (hs:SetAt w.heap.size wy wz):IsR w wz l (i+1):=
 ⟨hi,okU_all.2 ⟨h.ok,hok⟩,by rw[seeL_take hi];exact hk,hs.below (h.below.trans (hy.mono h.below.size)) (Nat.le_refl _)⟩
theorem isU_any {K:Nat→Prop} {w:World} {l:List Ty} {A:Option Addr} {c:Nat} (hL:ListT K w l A c) :
  Calls Tryz.prog 137 #[.slice A l.length c] w fun e w'=>e=.returned (.bool (isUB l))∧Below w.heap.size w w':=by
 have HL:=Hd hL
 have hll:=hL.short
 have HST:Hid (IsR w (w.alloc (.cells #[.bool false,.bool false,.bool false,.bool false] 143)) l 0):=Hd ⟨Nat.zero_le _,fun j hj=>absurd hj (by omega),heap_alloc_new w _,(Below.refl _ _).alloc (Nat.le_refl _) _⟩
 clear hL
 go_enter Tryz.func137,Tryz.ntmps137
 go_wp2_with fail
 go_loopw [8] (fun v wr=>∃ i:Nat,v=.int .i64 (i:Int)∧IsR w wr l i) (fun v _=>l.length - (intOf v).toNat)
 case atStart=>exact⟨0,rfl,HST.out⟩
 case round=>
  obtain⟨i,rfl,hr⟩:=hrel
  have HR:=Hd hr
  have hle:=hr.le
  by_cases hlt:i<l.length
  ·have t1:decide ((i:Int)<(l.length:Int))=true:=by simp;omega
   have wr2:wrap64 ((i:Int)+1)=((i+1:Nat):Int):=wrap_one (by omega)
   have HM:=Hd (measI hlt)
   obtain⟨b,o,hA,_,hat⟩:=HL.out.at (by omega)
   subst hA
   have hti:l[i]?=some l[i]:=List.getElem?_eq_getElem hlt
   have HAT:=Hd fun (j:Nat) (hj:j<l.length)=>(hat j hj).later hr.below
   obtain⟨k,hk,hck⟩:∃ k,l[i].k=k∧wr.cell? ⟨b,o+i*6,none⟩=some (.int .i64 k):=by
    have h1:=HAT.out i hlt
    generalize l[i]=t at h1
    obtain⟨k,s,n,ps,fs,vs⟩:=t
    obtain⟨_,_,_,_,_,_,⟨x0,_⟩,_⟩:=h1.six
    exact⟨k,rfl,x0⟩
   have HCK:Hid (∀ wx,Below wr.heap.size wr wx→wx.cell? ⟨b,o+i*6,none⟩=some (.int .i64 k)):=Hd fun wx hx=>cell_stays hx hck
   have HSEE:Hid (∀ wy,Below wr.heap.size wr wy→Calls Tryz.prog 138 #[.pointer (some ⟨w.heap.size,0,none⟩),.pointer (some ⟨b,o+i*6,none⟩)] wy fun e w'=>e=.returned (.tuple #[])∧KB w' w.heap.size (seeK (seeL ⟨false,false,false,false⟩ (l.take i)) k)∧SetAt w.heap.size wy w'):=Hd fun wy hy=>see_any (by unfold KB;rw[hy.block _ hr.lt];exact hr.kb) (cell_stays hy hck)
   have HNX:Hid (okU l i=true→∀ wy wz,Below wr.heap.size wr wy→KB wz w.heap.size (seeK (seeL ⟨false,false,false,false⟩ (l.take i)) k)→SetAt w.heap.size wy wz→IsR w wz l (i+1)):=Hd fun hok wy wz hy hk2 hs=>hr.next hlt hok hy (by rw[hk];exact hk2) hs
   by_cases hk15:k=15
   ·have HNO:Hid (isUB l=false):=Hd (isUB_no hlt (by unfold okU;rw[hti];simp[hk,hk15]))
    have HB9:=Hd hr.below
    clear hat hr hle hti hck HNX HSEE hk
    subst hk15
    go_wp2_with fail
    refine wp_region_held_drew (S:=(fun w'=>w'.cell? ⟨b,o+i*6,none⟩=some (.int .i64 15))) (by kernel_rfl) (HCK.out _ (Below.refl _ _).drew) (fun hHeld=>?_)
    refine Plan.start [0,1,2,3,4,5,6] ?_
    iterate 7 (refine Plan.tk (so rfl) hHeld ?_;try simp only[Act.put,pz1,pz2,pz3])
    refine Plan.done ?_
    refine Plan.start [7,8,9,10,11,12,13,14,15,16,17,18,19] ?_
    iterate 13 (refine Plan.take (v:=undef) (so rfl) (by kernel_rfl) (by kernel_rfl) (by kernel_rfl) (fun _ _ _ h=>h) (Or.inr ⟨by rfl,rfl⟩) hHeld ?_;try simp only[Act.put,pz1,pz2,pz3])
    refine Plan.done ?_
    refine Plan.start [20] ?_
    refine Plan.tk (so rfl) hHeld ?_
    try simp only[Act.put,pz1,pz2,pz3]
    refine Plan.done ?_
    refine wpAnyH_done (by kernel_rfl) ?_ _
    clear hHeld
    clear HCK HR
    go_wp2_with fail
    go_ret
    exact⟨by rw[HNO.out];rfl,HB9.out.drew⟩
   ·have tk:(k == 15)=false:=by simpa using hk15
    cases i with
    | zero=>
     have HOK:Hid (okU l 0=true):=Hd (by unfold okU;rw[hti];simp[hk,hk15])
     simp only[Nat.zero_mul,Nat.add_zero] at HCK HSEE
     clear hat hr hle hti hck hk hk15
     go_wp2_with fail
     refine wp_region_held_drew (S:=(fun w'=>w'.cell? ⟨b,o,none⟩=some (.int .i64 k))) (by kernel_rfl) (HCK.out _ (Below.refl _ _).drew) (fun hHeld=>?_)
     refine Plan.start [0,1,2,3,4,5,6,7,8,9] ?_
     iterate 10 (refine Plan.tk (so rfl) hHeld ?_;try simp only[Act.put,pz1,pz2,pz3])
     refine Plan.done ?_
     refine Plan.start [10,11,12,13,14,15,16,17,18] ?_
     iterate 9 (refine Plan.take (v:=undef) (so rfl) (by kernel_rfl) (by kernel_rfl) (by kernel_rfl) (fun _ _ _ h=>h) (Or.inr ⟨by rfl,rfl⟩) hHeld ?_;try simp only[Act.put,pz1,pz2,pz3])
     refine Plan.done ?_
     refine Plan.start [19,20] ?_
     iterate 2 (refine Plan.tk (so rfl) hHeld ?_;try simp only[Act.put,pz1,pz2,pz3])
     refine Plan.done ?_
     refine wpAnyH_done (by kernel_rfl) ?_ _
     clear hHeld
     go_wp2_with fail
     refine (HSEE.out _ (Below.refl _ _).drew).mono ?_
     rintro e w3 ⟨rfl,hkb3,hs3⟩
     have HI3:=Hd (HNX.out HOK.out _ _ (Below.refl _ _).drew hkb3 hs3)
     clear hkb3 hs3 HSEE HNX
     go_wp2_with fail
     refine⟨⟨0+1,by first | rfl | rw[wr2],HI3.out⟩,?_⟩
     first | exact HM.out | (rw[wr2];exact HM.out)
    | succ i=>
     have HORD:Hid (∀ wx,Below wr.heap.size wr wx→Calls Tryz.prog 104 #[.pointer (some ⟨b,o+i*6,none⟩),.pointer (some ⟨b,o+(i+1)*6,none⟩)] wx fun e w'=>e=.returned (.int .i64 (ordT l[i] l[i+1]))∧Gw wx w'):=Hd fun wx hx=>(order_any l[i] K K l[i+1]).ok wx _ _ _ _ ((HAT.out i (by omega)).later hx) ((HAT.out (i+1) hlt).later hx)
     have hoks:okU l (i+1)=decide (ordT l[i] l[i+1]<0):=by
      unfold okU
      rw[hti]
      show (!(l[i+1].k == 15) && (match l[i]? with | none=>true | some p=>decide (ordT p l[i+1]<0)))=_
      rw[List.getElem?_eq_getElem (by omega:i<l.length)]
      simp[hk,hk15]
     have HNO:Hid (ordT l[i] l[i+1]<0∨isUB l=false):=Hd (by
      by_cases h0:ordT l[i] l[i+1]<0
      ·exact .inl h0
      ·exact .inr (isUB_no hlt (by rw[hoks];simpa using h0)))
     have HOKS:=Hd hoks
     have HB9:=Hd hr.below
     generalize ordT l[i] l[i+1]=oo at HORD HNO HOKS
     have wr1:wrap64 (((i+1:Nat):Int) - 1)=((i:Nat):Int):=by rw[wrap_in (by omega) (by omega)];omega
     have wr1':IntKind.i64.wrap (((i+1:Nat):Int) - 1)=((i:Nat):Int):=by
      have e:IntKind.i64.wrap (((i+1:Nat):Int) - 1)=wrap64 (((i+1:Nat):Int) - 1):=by unfold wrap64;exact IntKind.wrap_i64 _
      rw[e,wr1]
     have wr3:wrap64 (i:Int)=(i:Int):=wrap_in (by omega) (by omega)
     have wr3':IntKind.i64.wrap (i:Int)=(i:Int):=by
      have e:IntKind.i64.wrap (i:Int)=wrap64 (i:Int):=by unfold wrap64;exact IntKind.wrap_i64 _
      rw[e,wr3]
     have i0:(0:Int)≤(i:Int)+1:=by omega
     have i1:(i:Int)+1<(l.length:Int):=by omega
     have i2:(0:Int)≤(i:Int):=by omega
     have i3:(i:Int)<(l.length:Int):=by omega
     have i4:(0:Int)<(i:Int)+1:=by omega
     clear hat hr hle hti hck hk hk15 hoks
     go_wp2_with fail
     refine wp_region_held_drew (S:=(fun w'=>w'.cell? ⟨b,o+(i+1)*6,none⟩=some (.int .i64 k))) (by kernel_rfl) (HCK.out _ (Below.refl _ _).drew) (fun hHeld=>?_)
     refine Plan.start [0,1,2,3,4,5,6,7,8,9,10,11,12,13,14,15,16] ?_
     iterate 17 (refine Plan.tk (so rfl) hHeld ?_;try simp only[Act.put,pz1,pz2,pz3])
     refine Plan.done ?_
     refine wpAnyH_ready (rs:=[17]) (by kernel_rfl) (by simp) ?_
     refine AllReadyH.cons (sd (some 28) rfl) (fun K hK=>?_) AllReadyH.nil
     go_simp
     refine (HORD.out _ (Below.refl _ _).drew).mono ?_
     rintro e w2 ⟨rfl,hb2⟩
     have HB2:=Hd ((Below.refl wr.heap.size wr).drew.trans hb2.below)
     clear hb2
     go_wp2_with fail
     refine hK.out _ _ (HCK.out _ HB2.out) (fun hHeld=>?_)
     clear hK K
     try simp only[Act.put,pz1,pz2,pz3]
     refine Plan.start [18,19,20] ?_
     iterate 3 (refine Plan.tk (so rfl) hHeld ?_;try simp only[Act.put,pz1,pz2,pz3])
     refine Plan.done ?_
     refine wpAnyH_done (by kernel_rfl) ?_ _
     clear hHeld
     by_cases h0:oo<0
     ·have h1:¬ (0≤oo):=by omega
      have HOK:Hid (okU l (i+1)=true):=Hd (by rw[HOKS.out];simpa using h0)
      clear i0 i1 i2 i3 i4 wr1 wr1' wr3 wr3' HORD h0
      go_wp2_with fail
      refine (HSEE.out _ HB2.out).mono ?_
      rintro e w3 ⟨rfl,hkb3,hs3⟩
      have HI3:=Hd (HNX.out HOK.out _ _ HB2.out hkb3 hs3)
      clear hkb3 hs3 HSEE HNX
      go_wp2_with fail
      refine⟨⟨(i+1)+1,by first | rfl | rw[wr2],HI3.out⟩,?_⟩
      first | exact HM.out | (rw[wr2];exact HM.out)
     ·have h1:0≤oo:=by omega
      have HN2:Hid (isUB l=false):=Hd (HNO.out.resolve_left h0)
      clear i0 i1 i2 i3 i4 wr1 wr1' wr3 wr3' HORD h0
      go_wp2_with fail
      go_ret
      exact⟨by rw[HN2.out];rfl,HB9.out.trans (HB2.out.mono HB9.out.size)⟩
  ·have t1:decide ((i:Int)<(l.length:Int))=false:=by simp;omega
   have hil:i=l.length:=by omega
   have HOK:Hid ((List.range l.length).all (okU l)=true):=Hd (range_all.2 fun j hj=>hr.ok j (by omega))
   have HKB:Hid (KB wr w.heap.size (kindsOf l)):=Hd (by have h:=hr.kb;rw[List.take_of_length_le (by omega),seeL_kinds] at h;exact h)
   have HB9:=Hd hr.below
   clear hr hle hil HR
   go_wp2_with fail
   go_loopw [39] (fun v wx=>∃ i:Nat,i≤l.length∧v=.int .i64 (i:Int)∧(∀ j (h:j<l.length),j<i→keepT (kindsOf l) l[j]=true)∧wx=wr) (fun v _=>l.length - (intOf v).toNat)
   case atStart=>exact⟨0,by omega,rfl,fun j _ hj=>absurd hj (by omega),rfl⟩
   case round=>
    obtain⟨i,hi,rfl,hkp,rfl⟩:=hrel
    have HKP:=Hd hkp
    clear hkp
    by_cases hlt:i<l.length
    ·have t1:decide ((i:Int)<(l.length:Int))=true:=by simp;omega
     have wr2:wrap64 ((i:Int)+1)=((i+1:Nat):Int):=wrap_one (by omega)
     have HM:=Hd (measI hlt)
     obtain⟨b,o,hA,_,hat⟩:=HL.out.at (by omega)
     subst hA
     have KK:=Hd (keep_any (t:=l[i]) HKB.out ((hat i hlt).later HB9.out))
     have HIN:=Hd hlt
     generalize hq:keepT (kindsOf l) l[i]=qq at KK
     cases qq with
     | false=>
      have HNO:Hid (isUB l=false):=Hd (isUB_keep hlt hq)
      clear hq hat hi
      go_wp2_with fail
      refine KK.out.mono ?_
      rintro e w2 ⟨rfl,rfl⟩
      go_wp2_with fail
      go_ret
      exact⟨by rw[HNO.out];rfl,HB9.out⟩
     | true=>
      have HK2:Hid (∀ j (h:j<l.length),j<i+1→keepT (kindsOf l) l[j]=true):=Hd fun j h hj=>by
       rcases Nat.lt_or_ge j i with h1 | h1
       ·exact HKP.out j h h1
       ·have:j=i:=by omega
        subst this
        exact hq
      clear hq hat hi
      go_wp2_with fail
      refine KK.out.mono ?_
      rintro e w2 ⟨rfl,rfl⟩
      go_wp2_with fail
      refine⟨⟨i+1,HIN.out,by first | rfl | rw[wr2],HK2.out,by first | rfl | trivial⟩,?_⟩
      first | exact HM.out | (rw[wr2];exact HM.out)
    ·have t1:decide ((i:Int)<(l.length:Int))=false:=by simp;omega
     have HYES:Hid (isUB l=true):=Hd (by
      unfold isUB
      rw[HOK.out,Bool.true_and,List.all_eq_true]
      intro x hx
      obtain⟨j,hj,rfl⟩:=List.getElem_of_mem hx
      exact HKP.out j hj (by omega))
     clear hi
     go_wp2_with fail
     go_ret
     exact⟨by rw[HYES.out];rfl,HB9.out⟩
open Go.RowKit Go.ChangeShapes Go.WideShapes Go.Deep
structure ListD (K:Nat→Prop) (w:World) (l:List (ByteArray×Ty)) (A:Option Addr) (c:Nat):Prop where
 ex:∃ b o,RowAt K A l.length c b o∧∀ i (h:i<l.length),w.cell? ⟨b,o+i*7,none⟩=some (.string l[i].1)∧l[i].1.size≤1000000000000000∧AtT K w l[i].2 b (o+i*7+1)
theorem cellsFd:Tryz.prog.cellsOf 31=7:=by kernel_rfl
theorem bytesFd:Tryz.prog.bytesOf 31=120:=by kernel_rfl
theorem open_founds {H:Type} {enc:TypeId×Value→H} {W:World} {base:Nat} {held:Bool} {fuel:Nat} {v:Value} {d:DataW H} {p:List MemPlace}
  (h:DataW.trod enc Tryz.prog W base (fun _=>true) held fuel 27 [v]=some (d,p)) (hz:∀ x∈d.weights Tryz.prog 27,x≤reachBytes) :
  ∃ (l:List (ByteArray×Ty)) (A:Option Addr) (c:Nat),v=.slice A l.length c∧ListD (fun _=>True) W l A c:=by
 rcases open_slice Tryz.underlying27 h with ⟨e5,q5⟩ | ⟨ad,len,cap,m,nf,D,Pl,e5,hb,hl,hm,hmm,q5,hi⟩
 ·obtain rfl:v=.slice none 0 0:=by simpa using e5
  exact⟨[],none,0,rfl,⟨0,0,⟨Nat.le_refl _,by decide,fun _=>rfl,fun h=>absurd h (by simp)⟩,fun i h=>absurd h (by simp)⟩⟩
 ·obtain rfl:v=.slice (some ad) len cap:=by simpa using e5
  have hmc:m=cap:=by rw[hmm];simp
  subst hmc
  obtain⟨rfl,-⟩:d=_∧p=_:=by simpa only[Prod.mk.injEq] using q5
  have hcap:m*120≤reachBytes:=by
   have:=hz ((len+(m - len))*120) (by simp[DataW.weights,Tryz.underlying27,bytesFd])
   rwa [show len+(m - len)=m by omega] at this
  have hcap2:m≤1000000000000000:=by have:=reach_leT;omega
  have hel:∀ j,j<len→∃ f:ByteArray×Ty,W.cell? (ad.add (j*7))=some (.string f.1)∧f.1.size≤1000000000000000∧∃ cs,RepT (fun _=>True) W f.2 cs∧∀ i,i<6→W.cell? (ad.add (j*7+1+i))=cs[i]?:=fun j hj=>by
   obtain⟨cs',hcs,htr⟩:=hi j (by omega)
   rw[cellsFd] at hcs
   obtain⟨_,hlen',hat⟩:=World.cells?_some hcs
   have hmem:D j∈(List.range len).map D:=List.mem_map.2 ⟨j,List.mem_range.2 hj,rfl⟩
   have hzD:∀ x∈(D j).weights Tryz.prog 31,x≤reachBytes:=fun x hx=>hz x (by
    simp only[DataW.weights,Tryz.underlying27]
    exact List.mem_cons_of_mem _ (List.mem_append_left _ (weights_all hmem hx)))
   obtain⟨xs,n',hfu,hx,_,hxl,hf⟩:=DataW.trod_struct Tryz.underlying31 htr
   match cs',hlen' with
   | [v0,v1,v2,v3,v4,v5,v6],_=>
    match xs,hxl with
    | [y0,y2],_=>
     have h0:DataW.trod enc Tryz.prog W base (fun _=>true) held n' 9 (([v0,v1,v2,v3,v4,v5,v6].drop 0).take (Tryz.prog.cellsOf 9))=some y0:=hf 0 _ rfl
     have h2:DataW.trod enc Tryz.prog W base (fun _=>true) held n' 26 (([v0,v1,v2,v3,v4,v5,v6].drop 1).take (Tryz.prog.cellsOf 26))=some y2:=hf 1 _ rfl
     rw[c1str] at h0
     rw[cells26] at h2
     obtain⟨s,e0,q0,_⟩:=DataW.trod_string Tryz.underlying9 h0
     obtain rfl:v0=.string s:=by have h:[v0]=[.string s]:=e0;simpa using h
     subst q0
     have hDe:D j=.agg ([_,y2].map (·.1)):=(Prod.mk.inj hx).1
     have ht:s.size≤1000000000000000:=by
      have:=hzD s.data.toList.length (by rw[hDe];simp[DataW.weights,DataW.weightsEach,Tryz.underlying31])
      have h2:s.size=s.data.toList.length:=by simp
      have:=reach_leT
      omega
     obtain⟨t,hr⟩:=open_all _ y2.1 rfl n' _ y2.2 h2 (fun x hx2=>hzD x (by
       rw[hDe]
       simp[DataW.weights,DataW.weightsEach,Tryz.underlying31]
       exact .inr hx2))
     have a0:=hat 0 (by decide)
     rw[add_addT] at a0
     refine⟨(s,t),a0,ht,_,hr,fun i hi6=>?_⟩
     have ai:=hat (1+i) (by omega)
     rw[add_addT,←Nat.add_assoc] at ai
     rw[ai]
     match i,hi6 with
     | 0,_=>rfl
     | 1,_=>rfl
     | 2,_=>rfl
     | 3,_=>rfl
     | 4,_=>rfl
     | 5,_=>rfl
  obtain⟨b,o,hrow,had⟩:=row_of (W:=W) (ad:=ad) (n0:=0) hl hcap2 (fun h0=>by
   obtain⟨f,hf,_⟩:=hel 0 h0
   rw[Nat.zero_mul] at hf
   exact⟨by rw[hf];rfl,rfl⟩)
  obtain⟨l,hll,hlp⟩:=build_list hel
  subst hll
  refine⟨l,some ad,m,rfl,⟨b,o,hrow,fun i hi2=>?_⟩⟩
  have ha:=had (by omega)
  subst ha
  obtain⟨f0,f2,cs,hr,hat⟩:=hlp i hi2
  rw[add_none] at f0
  refine⟨f0,f2,cs,fun j u hj=>?_,hr⟩
  have hj6:=(List.getElem?_eq_some_iff.1 hj).1
  rw[hr.six] at hj6
  have:=hat j hj6
  rw[add_none] at this
  rw[show o+i*7+1+j=o+(i*7+1+j) from by omega,this,hj]
theorem open_foundV {H:Type} {enc:TypeId×Value→H} {W:World} {base b0:Nat} {held:Bool} {r:Reach} {v:Value} {d:DataW H} {p:List MemPlace} (hv:Value.okWide Tryz.prog W r b0 27 v) (h:DataW.Trod enc Tryz.prog W base (fun _=>true) held 27 v d p) (hz:∀ x∈d.weights Tryz.prog 27,x≤reachBytes) :
  ∃ (l:List (ByteArray×Ty)) (A:Option Addr) (c:Nat),v=.slice A l.length c∧ListD (fun _=>True) W l A c:=by
 obtain⟨a,n,c,rfl⟩:=okWide_slice Tryz.underlying27 hv
 obtain⟨fuel,hf⟩:=h
 exact open_founds (v:=.slice a n c) hf hz
theorem rep_never (K:Nat→Prop) (w:World):RepT K w (tyK 1) [.int .i64 1,.string ⟨#[]⟩,.int .i64 0,.slice none 0 0,.slice none 0 0,.slice none 0 0]:=
 RepT.of (by decide) ⟨⟨0,0,⟨by simp,by decide,fun _=>rfl,fun h=>absurd h (by simp)⟩,fun i h=>absurd h (by simp)⟩⟩ ⟨⟨0,0,⟨by simp,by decide,fun _=>rfl,fun h=>absurd h (by simp)⟩,fun i h=>absurd h (by simp)⟩⟩ ⟨⟨0,0,⟨by simp,by decide,fun _=>rfl,fun h=>absurd h (by simp)⟩,fun i h=>absurd h (by simp)⟩⟩
theorem six_other {b:Nat} (W:World) (y0 y1 y2 y3 y4 y5:Value) {p:Addr} (h:p.block≠b):((((((W.setCell ⟨b,0,none⟩ y0).setCell ⟨b,1,none⟩ y1).setCell ⟨b,2,none⟩ y2).setCell ⟨b,3,none⟩ y3).setCell ⟨b,4,none⟩ y4).setCell ⟨b,5,none⟩ y5).cell? p=W.cell? p:=by
 refine World.cell?_of_block ?_
 rw[Below.heap_setCell _ _ _ _ h,Below.heap_setCell _ _ _ _ h,Below.heap_setCell _ _ _ _ h,Below.heap_setCell _ _ _ _ h,Below.heap_setCell _ _ _ _ h,Below.heap_setCell _ _ _ _ h]
theorem dedup_len:∀ l:List Ty,(dedupT l).length≤l.length
 | []=>Nat.le_refl _
 | [a]=>Nat.le_refl _
 | a :: b :: l=>by
  have ih:=dedup_len (b :: l)
  rw[dedupT]
  split
  ·exact Nat.le_trans ih (Nat.le_succ _)
  ·simpa using ih
theorem rep_box {K:Nat→Prop} {w w1 W:World} {t:Ty} {cs:List Value} (h:RepT K w1 t cs) (hlo:∀ b,K b→b<w.heap.size) (hb:Below w1.heap.size w1 W) (y0 y1 y2 y3 y4 y5:Value) :
  RepT (fun b=>K b∨w.heap.size≤b) ((((((W.setCell ⟨w.heap.size,0,none⟩ y0).setCell ⟨w.heap.size,1,none⟩ y1).setCell ⟨w.heap.size,2,none⟩ y2).setCell ⟨w.heap.size,3,none⟩ y3).setCell ⟨w.heap.size,4,none⟩ y4).setCell ⟨w.heap.size,5,none⟩ y5) t cs:=
 RepT.keep (fun _ h=>.inl h) (fun b o v hk hc=>by
  rw[six_other W y0 y1 y2 y3 y4 y5 (p:=⟨b,o,none⟩) (by have:=hlo b hk;show b≠_;omega)]
  exact cell_stays hb hc) t cs h
theorem rep_many {K:Nat→Prop} {w w1 W:World} {g c:Nat} {dd:List Ty} (h:InT K w1 W g c dd) (hlo:∀ b,K b→b<w.heap.size) (hb:Below w1.heap.size w1 W) (hg:w.heap.size<g) (hl:dd.length≤1000000000000000) (y0 y1 y2 y3 y4 y5:Value) :
  RepT (fun b=>K b∨w.heap.size≤b) ((((((W.setCell ⟨w.heap.size,0,none⟩ y0).setCell ⟨w.heap.size,1,none⟩ y1).setCell ⟨w.heap.size,2,none⟩ y2).setCell ⟨w.heap.size,3,none⟩ y3).setCell ⟨w.heap.size,4,none⟩ y4).setCell ⟨w.heap.size,5,none⟩ y5) (.mk 15 emptyB 0 dd [] []) [.int .i64 15,.string ⟨#[]⟩,.int .i64 0,.slice (some ⟨g,0,none⟩) dd.length dd.length,.slice none 0 0,.slice none 0 0]:=by
 refine RepT.of (by decide) ⟨⟨g,0,⟨Nat.le_refl _,hl,(fun h=>by cases h),fun _=>⟨rfl,.inr (Nat.le_of_lt hg)⟩⟩,fun i hi=>?_⟩⟩ ⟨⟨0,0,⟨by simp,by decide,fun _=>rfl,fun h=>absurd h (by simp)⟩,fun i h=>absurd h (by simp)⟩⟩ ⟨⟨0,0,⟨by simp,by decide,fun _=>rfl,fun h=>absurd h (by simp)⟩,fun i h=>absurd h (by simp)⟩⟩
 obtain⟨cs,h1,h2⟩:=h.reps i dd[i] (List.getElem?_eq_getElem hi)
 refine⟨cs,fun j u hj=>?_,rep_box h1 hlo hb _ _ _ _ _ _⟩
 rw[six_other W y0 y1 y2 y3 y4 y5 (p:=⟨g,0+i*6+j,none⟩) (by show g≠_;omega),Nat.zero_add]
 exact h2 j u hj
theorem set_six_below {B b:Nat} {a W:World} (h:Below B a W) (hb:B≤b) (y0 y1 y2 y3 y4 y5:Value):Below B a ((((((W.setCell ⟨b,0,none⟩ y0).setCell ⟨b,1,none⟩ y1).setCell ⟨b,2,none⟩ y2).setCell ⟨b,3,none⟩ y3).setCell ⟨b,4,none⟩ y4).setCell ⟨b,5,none⟩ y5):=
 (((((h.setCell hb y0).setCell hb y1).setCell hb y2).setCell hb y3).setCell hb y4).setCell hb y5
theorem union_any (hS:SortP) (hSN:SortN) (hC:CompP) (hCN:CompN) {K:Nat→Prop} {w:World} {l:List Ty} {A:Option Addr} {c:Nat} (hL:ListT K w l A c) (hbd:(flatU l).length≤1099511627776) (hlo:∀ b,K b→b<w.heap.size) :
  Calls Tryz.prog 68 #[.slice A l.length c] w (UnionPost K w l):=by
 have hb1:Below w.heap.size w (w.alloc (.cells #[.int .i64 0,.string ⟨#[]⟩,.int .i64 0,.slice none 0 0,.slice none 0 0,.slice none 0 0] 26)):=(Below.refl _ _).alloc (Nat.le_refl _) _
 have KF:=Hd (flat_any l K (w.alloc (.cells #[.int .i64 0,.string ⟨#[]⟩,.int .i64 0,.slice none 0 0,.slice none 0 0,.slice none 0 0] 26)) ((w.alloc (.cells #[.int .i64 0,.string ⟨#[]⟩,.int .i64 0,.slice none 0 0,.slice none 0 0,.slice none 0 0] 26)).alloc (.cells #[.bool false,.bool false,.bool false,.bool false] 143)) A c (.slice none 0 0) [] (w.heap.size+1) ⟨false,false,false,false⟩ (hL.later hb1) ((Below.refl _ _).alloc (Nat.le_refl _) _) (by simp) (by
  have h:=heap_alloc_new (w.alloc (.cells #[.int .i64 0,.string ⟨#[]⟩,.int .i64 0,.slice none 0 0,.slice none 0 0,.slice none 0 0] 26)) (.cells #[.bool false,.bool false,.bool false,.bool false] 143)
  rw[World.size_alloc] at h
  exact h) ⟨⟨[],World.ownsRow_nil _ _ _ _,fun i h=>absurd h (by simp)⟩⟩ (by simpa using hbd))
 have RB:Hid (∀ W,Below (w.alloc (.cells #[.int .i64 0,.string ⟨#[]⟩,.int .i64 0,.slice none 0 0,.slice none 0 0,.slice none 0 0] 26)).heap.size (w.alloc (.cells #[.int .i64 0,.string ⟨#[]⟩,.int .i64 0,.slice none 0 0,.slice none 0 0,.slice none 0 0] 26)) W→W.heap[w.heap.size]?=some (.cells #[.int .i64 0,.string ⟨#[]⟩,.int .i64 0,.slice none 0 0,.slice none 0 0,.slice none 0 0] 26 (0,0))):=Hd fun W hb=>(hb.block w.heap.size (by simp)).trans (heap_alloc_new w _)
 have HB1:=Hd hb1
 have HS:=Hd hS
 have HSN:=Hd hSN
 have HC:=Hd hC
 have HCN:=Hd hCN
 have HBD:=Hd hbd
 have HLO:=Hd hlo
 rw[seeL_kinds] at KF
 unfold UnionPost
 rw[show unionT l=shutU (sortT ((flatU l).filter (keepT (kindsOf (flatU l))))) from rfl]
 generalize kindsOf (flatU l)=hk at KF ⊢
 generalize flatU l=ts at KF HBD ⊢
 have hw1s:(w.alloc (.cells #[.int .i64 0,.string ⟨#[]⟩,.int .i64 0,.slice none 0 0,.slice none 0 0,.slice none 0 0] 26)).heap.size=w.heap.size+1:=by simp
 have HW1:=Hd hw1s
 clear hL hbd hlo hb1 hS hSN hC hCN hw1s
 obtain⟨i0,hi0,hz0,hz1,hz2⟩:=partsT infoTy
 generalize hw1:(w.alloc (.cells #[.int .i64 0,.string ⟨#[]⟩,.int .i64 0,.slice none 0 0,.slice none 0 0,.slice none 0 0] 26))=w1 at KF RB HB1 HW1
 have HE1:=Hd hw1
 clear hw1
 go_enter Tryz.func68,Tryz.ntmps68
 go_wp2_with fail
 rw[HE1.out]
 refine KF.out.mono ?_
 rintro e w3 ⟨v3,rfl,ho,hkb,hb3⟩
 rw[List.nil_append] at ho
 have HB3:=Hd hb3
 have HKB:=Hd hkb
 rcases InT.of_out ho with ⟨rfl,rfl⟩ | ⟨g,cc,rfl,hg,hin⟩
 ·clear KF ho hkb hb3
  go_wp2_with fail
  go_loopw [5,14] (fun kv v wr=>kv=.slice none 0 0∧v=.int .i64 0∧Below w1.heap.size w1 wr) (fun _ _ _=>0)
  case atStart=>exact⟨rfl,rfl,HB3.out⟩
  case round=>
   obtain⟨rfl,rfl,hbr⟩:=hrel
   have HBr:=Hd hbr
   clear hbr
   go_wp2_with fail
   refine (HSN.out _).mono ?_
   rintro e w5 ⟨rfl,hb5⟩
   have HB5:=Hd (HBr.out.trans (hb5.mono HBr.out.size))
   clear hb5
   go_wp2_with fail
   refine (HCN.out _).mono ?_
   rintro e w6 ⟨rfl,hb6⟩
   have HB6:=Hd (HB5.out.trans (hb6.mono HB5.out.size))
   clear hb6
   have rb:=RB.out _ HB6.out
   have q0:=Ch rb 0
   have q1:=Ch rb 1
   have q2:=Ch rb 2
   have q3:=Ch rb 3
   have q4:=Ch rb 4
   have q5:=Ch rb 5
   have z0:=Lib.frozen_of_heap rb 0
   have z1:=Lib.frozen_of_heap rb 1
   have z2:=Lib.frozen_of_heap rb 2
   have z3:=Lib.frozen_of_heap rb 3
   have z4:=Lib.frozen_of_heap rb 4
   have z5:=Lib.frozen_of_heap rb 5
   have rs:=six_set rb (.int .i64 1) (.string ⟨#[]⟩) (.int .i64 0) (.slice none 0 0) (.slice none 0 0) (.slice none 0 0)
   have r0:=Ch rs 0
   have r1:=Ch rs 1
   have r2:=Ch rs 2
   have r3:=Ch rs 3
   have r4:=Ch rs 4
   have r5:=Ch rs 5
   clear rb rs
   go_wp2_with fail
   refine bodyPost_ret (v:=.agg #[.int .i64 1,.string ⟨#[]⟩,.int .i64 0,.slice none 0 0,.slice none 0 0,.slice none 0 0]) (by simp[results,Tryz.results68,go_sem,r0,r1,r2,r3,r4,r5]) rfl ?_
   clear r0 r1 r2 r3 r4 r5 q0 q1 q2 q3 q4 q5 z0 z1 z2 z3 z4 z5
   exact⟨[.int .i64 1,.string ⟨#[]⟩,.int .i64 0,.slice none 0 0,.slice none 0 0,.slice none 0 0],rfl,rep_never _ _,set_six_below (below_then HB1.out HB6.out) (Nat.le_refl _) _ _ _ _ _ _⟩
 ·have HIN:=Hd hin
  have HG:=Hd hg
  have hcap:=hin.le
  have hmx:=hin.mx
  unfold maxLen at hmx
  clear KF ho hkb hb3 hin hg
  go_wp2_with fail
  go_loopw [5,14] (fun kv v wr=>∃ (i:Nat) (F:List Ty),v=.int .i64 i∧kv=.slice (some ⟨g,0,none⟩) F.length cc∧KeepR K w1 wr (w.heap.size+1) g cc hk ts i F) (fun _ v _=>ts.length - (intOf v).toNat)
  case atStart=>exact⟨0,[],rfl,rfl,by omega,by simp,HKB.out,HB3.out,by simpa using HIN.out⟩
  case round=>
   obtain⟨i,F,rfl,rfl,hr⟩:=hrel
   have HR:=Hd hr
   by_cases hlt:i<ts.length
   ·obtain⟨cs,hrep,hcs⟩:=hr.at hlt
    have hfl:=hr.fle
    have hnx:=fun (wy:World) hkf hb=>hr.next (w':=wy) hlt hkf hb
    have hpu:=fun (wy:World) hb hk=>hr.push (wy:=wy) (cs:=cs) hlt hk hb HG.out hrep
    have HNX:=Hd hnx
    have HPU:=Hd hpu
    have ti:decide ((i:Int)<(ts.length:Int))=true:=by simp;omega
    have wr2:wrap64 ((i:Int)+1)=((i+1:Nat):Int):=wrap_one (by have:=HBD.out;omega)
    have HL:=Hd hlt
    generalize ts[i]=t at hrep HNX HPU
    obtain⟨k,s,n,ps,fs,ws⟩:=t
    obtain⟨Ap,cp,Af,cf,Av,cv,rfl,-⟩:=hrep.inv
    simp only[cells6T] at hcs hrep HPU
    have x0:wr.cell? ⟨g,i*6,none⟩=some (.int .i64 k):=hcs 0 _ rfl
    have x1:=hcs 1 _ rfl
    have x2:=hcs 2 _ rfl
    have x3:=hcs 3 _ rfl
    have x4:=hcs 4 _ rfl
    have x5:=hcs 5 _ rfl
    have hbx:Below wr.heap.size wr (wr.alloc (.cells #[.int .i64 k,.string s,.int .i64 n,.slice Ap ps.length cp,.slice Af fs.length cf,.slice Av ws.length cv] 26)):=(Below.refl _ _).alloc (Nat.le_refl _) _
    have KK:=Hd (keep_any (K:=K) (w:=wr.alloc (.cells #[.int .i64 k,.string s,.int .i64 n,.slice Ap ps.length cp,.slice Af fs.length cf,.slice Av ws.length cv] 26)) (g:=w.heap.size+1) (h:=hk) (t:=.mk k s n ps fs ws) (b:=wr.heap.size) (o:=0) (by
     unfold KB
     rw[hbx.block _ (Array.getElem?_eq_some_iff.1 HR.out.kb).1]
     exact HR.out.kb) (AtT.box _ (hrep.later (HR.out.below))))
    have HBx:=Hd hbx
    generalize hkt:keepT hk (.mk k s n ps fs ws)=q at KK HNX HPU
    clear hr hrep hcs hnx hpu hbx hkt
    go_wp2_with fail
    refine KK.out.mono ?_
    rintro e w5 ⟨rfl,rfl⟩
    have b0:=World.cell?_alloc_new wr #[.int .i64 k,.string s,.int .i64 n,.slice Ap ps.length cp,.slice Af fs.length cf,.slice Av ws.length cv] 26
    cases q with
    | false=>
     go_wp2_with fail
     refine⟨⟨i+1,F,by first | rfl | rw[wr2],rfl,HNX.out _ (by trivial) HBx.out⟩,?_⟩
     first | exact measI HL.out | exact measT HL.out | (rw[wr2];exact measI HL.out)
    | true=>
     have HB6:=Hd (HBx.out.alloc (by simp) (.cells #[.int .i64 k,.string s,.int .i64 n,.slice Ap ps.length cp,.slice Af fs.length cf,.slice Av ws.length cv] 26))
     have HFl:Hid (F.length+1≤cc):=Hd (by omega)
     have HC6:=Hd (cellsT_new (wr.alloc (.cells #[.int .i64 k,.string s,.int .i64 n,.slice Ap ps.length cp,.slice Af fs.length cf,.slice Av ws.length cv] 26)) [.int .i64 k,.string s,.int .i64 n,.slice Ap ps.length cp,.slice Af fs.length cf,.slice Av ws.length cv] 26)
     rw[World.size_alloc] at HC6
     clear hfl x0 x1 x2 x3 x4 x5
     go_wp2_with (at_builtin;refine wpList_plain rfl fun K hK=>?_;go_loud (refine wp_append_room _ _ 22 rfl 26 i0 6 Tryz.underlying22 hi0 hz1 g 0 F.length cc rfl ⟨wr.heap.size+1,0,none⟩ 1 1 [.int .i64 k,.string s,.int .i64 n,.slice Ap ps.length cp,.slice Af fs.length cf,.slice Av ws.length cv] rfl rfl ?a0 ?a1 ?a2 (F.length*6) (by omega) ?a3 ?_))
     case a0=>exact HC6.out
     case a1=>
      intro u hu
      simp only[List.mem_cons,List.not_mem_nil,or_false] at hu
      rcases hu with rfl | rfl | rfl | rfl | rfl | rfl <;> rfl
     case a2=>exact HFl.out
     case a3=>
      intro j hj
      have hj6:j<6:=hj
      exact (HR.out.row.later HB6.out).there (by have:=HFl.out;omega)
     refine⟨⟨i+1,_,by first | rfl | rw[wr2],?p1,HPU.out _ HB6.out (by trivial)⟩,?_⟩
     case p1=>simp
     first | exact measI HL.out | exact measT HL.out | (rw[wr2];exact measI HL.out)
   ·have ti:decide ((i:Int)<(ts.length:Int))=false:=by simp;omega
    have HFf:Hid (F=ts.filter (keepT hk)):=Hd (by rw[hr.f,List.take_of_length_le (by omega)])
    have HFl:Hid (F.length≤1099511627776):=Hd (by have h1:=hr.fle;have h2:=hr.le;have h3:=HBD.out;omega)
    have KS:=Hd (HS.out K w1 wr g cc F hr.row.pre hr.below HG.out HFl.out)
    clear hr
    go_wp2_with fail
    refine KS.out.mono ?_
    rintro e w5 ⟨rfl,hb5,s,hws,hmem,hlen,hin5⟩
    have KC:=Hd (HC.out K w1 w5 g cc s hin5 hb5 HG.out (by rw[hlen];exact HFl.out))
    rw[hlen] at KC
    have HSD:=Hd (sort_dedup hws hmem)
    have HDl:Hid ((dedupT s).length≤1099511627776):=Hd (by have h1:=dedup_len s;have h2:=HFl.out;omega)
    clear hb5 hws hmem hlen hin5 KS
    go_wp2_with fail
    refine KC.out.mono ?_
    rintro e w6 ⟨rfl,hb6,hin6⟩
    have HB6:=Hd hb6
    have HIN6:=Hd hin6
    clear hb6 hin6 KC
    generalize dedupT s=d at HSD HDl HIN6
    cases d with
    | nil=>
     have rb:=RB.out _ HB6.out
     have q0:=Ch rb 0
     have q1:=Ch rb 1
     have q2:=Ch rb 2
     have q3:=Ch rb 3
     have q4:=Ch rb 4
     have q5:=Ch rb 5
     have z0:=Lib.frozen_of_heap rb 0
     have z1:=Lib.frozen_of_heap rb 1
     have z2:=Lib.frozen_of_heap rb 2
     have z3:=Lib.frozen_of_heap rb 3
     have z4:=Lib.frozen_of_heap rb 4
     have z5:=Lib.frozen_of_heap rb 5
     have rs:=six_set rb (.int .i64 1) (.string ⟨#[]⟩) (.int .i64 0) (.slice none 0 0) (.slice none 0 0) (.slice none 0 0)
     have r0:=Ch rs 0
     have r1:=Ch rs 1
     have r2:=Ch rs 2
     have r3:=Ch rs 3
     have r4:=Ch rs 4
     have r5:=Ch rs 5
     clear rb rs
     go_wp2_with fail
     refine bodyPost_ret (v:=.agg #[.int .i64 1,.string ⟨#[]⟩,.int .i64 0,.slice none 0 0,.slice none 0 0,.slice none 0 0]) (by simp[results,Tryz.results68,go_sem,r0,r1,r2,r3,r4,r5]) rfl ?_
     clear r0 r1 r2 r3 r4 r5 q0 q1 q2 q3 q4 q5 z0 z1 z2 z3 z4 z5
     exact⟨[.int .i64 1,.string ⟨#[]⟩,.int .i64 0,.slice none 0 0,.slice none 0 0,.slice none 0 0],rfl,by rw[←HFf.out,HSD.out];exact rep_never _ _,set_six_below (below_then HB1.out HB6.out) (Nat.le_refl _) _ _ _ _ _ _⟩
    | cons x d=>
    cases d with
    | nil=>
     obtain⟨cs,hrep,hcs⟩:=HIN6.out.reps 0 x rfl
     obtain⟨k,s,n,ps,fs,ws⟩:=x
     obtain⟨Ap,cp,Af,cf,Av,cv,rfl,-⟩:=hrep.inv
     simp only[cells6T] at hcs hrep
     have HREP:=Hd hrep
     have x0:w6.cell? ⟨g,0,none⟩=some (.int .i64 k):=hcs 0 _ rfl
     have x1:w6.cell? ⟨g,1,none⟩=some (.string s):=hcs 1 _ rfl
     have x2:w6.cell? ⟨g,2,none⟩=some (.int .i64 n):=hcs 2 _ rfl
     have x3:w6.cell? ⟨g,3,none⟩=some (.slice Ap ps.length cp):=hcs 3 _ rfl
     have x4:w6.cell? ⟨g,4,none⟩=some (.slice Af fs.length cf):=hcs 4 _ rfl
     have x5:w6.cell? ⟨g,5,none⟩=some (.slice Av ws.length cv):=hcs 5 _ rfl
     have hcap6:1≤cc:=HIN6.out.le
     clear hcs hrep
     have rb:=RB.out _ HB6.out
     have q0:=Ch rb 0
     have q1:=Ch rb 1
     have q2:=Ch rb 2
     have q3:=Ch rb 3
     have q4:=Ch rb 4
     have q5:=Ch rb 5
     have z0:=Lib.frozen_of_heap rb 0
     have z1:=Lib.frozen_of_heap rb 1
     have z2:=Lib.frozen_of_heap rb 2
     have z3:=Lib.frozen_of_heap rb 3
     have z4:=Lib.frozen_of_heap rb 4
     have z5:=Lib.frozen_of_heap rb 5
     have rs:=six_set rb (.int .i64 k) (.string s) (.int .i64 n) (.slice Ap ps.length cp) (.slice Af fs.length cf) (.slice Av ws.length cv)
     have r0:=Ch rs 0
     have r1:=Ch rs 1
     have r2:=Ch rs 2
     have r3:=Ch rs 3
     have r4:=Ch rs 4
     have r5:=Ch rs 5
     clear rb rs
     go_wp2_with fail
     refine bodyPost_ret (v:=.agg #[.int .i64 k,.string s,.int .i64 n,.slice Ap ps.length cp,.slice Af fs.length cf,.slice Av ws.length cv]) (by simp[results,Tryz.results68,go_sem,r0,r1,r2,r3,r4,r5]) rfl ?_
     clear r0 r1 r2 r3 r4 r5 q0 q1 q2 q3 q4 q5 z0 z1 z2 z3 z4 z5
     exact⟨[.int .i64 k,.string s,.int .i64 n,.slice Ap ps.length cp,.slice Af fs.length cf,.slice Av ws.length cv],rfl,by rw[←HFf.out,HSD.out];exact rep_box HREP.out HLO.out HB6.out _ _ _ _ _ _,set_six_below (below_then HB1.out HB6.out) (Nat.le_refl _) _ _ _ _ _ _⟩
    | cons y d=>
     have hd0:((x :: y :: d).length:Int)≠0:=by simp;omega
     have hd1:((x :: y :: d).length:Int)≠1:=by simp;omega
     have te0:(((x :: y :: d).length:Int) == 0)=false:=by simpa using hd0
     have te1:(((x :: y :: d).length:Int) == 1)=false:=by simpa using hd1
     have KCl:=Hd (clip_any (some ⟨g,0,none⟩) (x :: y :: d).length cc w6 HIN6.out.le)
     have HD2:Hid (sortT F=x :: y :: d):=HSD
     have HDl2:Hid ((x :: y :: d).length≤1099511627776):=HDl
     have hun:shutU (x :: y :: d)=.mk 15 emptyB 0 (x :: y :: d) [] []:=rfl
     generalize x :: y :: d=dd at *
     have HUN:=Hd hun
     clear hd0 hd1 hun
     go_wp2_with fail
     refine KCl.out.mono ?_
     rintro e w7 ⟨rfl,rfl⟩
     clear KCl
     have rb:=RB.out _ HB6.out
     have q0:=Ch rb 0
     have q1:=Ch rb 1
     have q2:=Ch rb 2
     have q3:=Ch rb 3
     have q4:=Ch rb 4
     have q5:=Ch rb 5
     have z0:=Lib.frozen_of_heap rb 0
     have z1:=Lib.frozen_of_heap rb 1
     have z2:=Lib.frozen_of_heap rb 2
     have z3:=Lib.frozen_of_heap rb 3
     have z4:=Lib.frozen_of_heap rb 4
     have z5:=Lib.frozen_of_heap rb 5
     have rs:=six_set rb (.int .i64 15) (.string ⟨#[]⟩) (.int .i64 0) (.slice (some ⟨g,0,none⟩) dd.length dd.length) (.slice none 0 0) (.slice none 0 0)
     have r0:=Ch rs 0
     have r1:=Ch rs 1
     have r2:=Ch rs 2
     have r3:=Ch rs 3
     have r4:=Ch rs 4
     have r5:=Ch rs 5
     clear rb rs
     go_wp2_with fail
     refine bodyPost_ret (v:=.agg #[.int .i64 15,.string ⟨#[]⟩,.int .i64 0,.slice (some ⟨g,0,none⟩) dd.length dd.length,.slice none 0 0,.slice none 0 0]) (by simp[results,Tryz.results68,go_sem,r0,r1,r2,r3,r4,r5]) rfl ?_
     clear r0 r1 r2 r3 r4 r5 q0 q1 q2 q3 q4 q5 z0 z1 z2 z3 z4 z5
     exact⟨[.int .i64 15,.string ⟨#[]⟩,.int .i64 0,.slice (some ⟨g,0,none⟩) dd.length dd.length,.slice none 0 0,.slice none 0 0],rfl,by rw[←HFf.out,HD2.out,HUN.out];exact rep_many HIN6.out HLO.out HB6.out (by have h1:=HG.out;have h2:=HW1.out;omega) (by have:=HDl2.out;omega) _ _ _ _ _ _,set_six_below (below_then HB1.out HB6.out) (Nat.le_refl _) _ _ _ _ _ _⟩
end Go.Proofs.YtlpfpehegddcfaaGreatDoor
