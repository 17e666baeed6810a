import Derived.Test.YtlpfpehegddcfaaGreatDoorMn3
namespace Go.Proofs.YtlpfpehegddcfaaGreatDoor
set_option maxRecDepth 100000
set_option maxHeartbeats 64000000
open Go.RowKit
theorem order_step (k:Int) (t:ByteArray) (n:Int) (ps:List Ty) (fs:FsT) (vs:VsT) (hp:∀ p∈ps,OrdT p) (hf:∀ f∈fs,OrdT f.2.2) (hv:∀ v∈vs,∀ b∈v.2,OrdT b):OrdT (.mk k t n ps fs vs):=by
 intro K K' tt
 obtain⟨k',t',n',ps2,fs2,vs2⟩:=tt
 refine⟨fun w b o b' o' h h'=>?_⟩
 obtain⟨A,c,A2,c2,A3,c3,⟨x0,x1,x2,x3,x4,x5⟩,_,hP,hF,hV⟩:=h.six
 obtain⟨B,d,B2,d2,B3,d3,⟨y0,y1,y2,y3,y4,y5⟩,_,hP2,hF2,hV2⟩:=h'.six
 rw[ord_steps,←or2_assoc (cmpB t t') _ _,←or2_assoc (cmpZ k k') _ _,←or2_assoc (cmpZ k k') _ _]
 have KA:=Hd (fun w=>compare_i k k' w)
 have KB:=Hd (fun w=>compare_s t t' w)
 have KC:=Hd (fun w=>compare_l n n' w)
 have KP:=Hd (fun w' (hb:Below w.heap.size w w')=>list_any ps ps2 hp (hP.later hb) (hP2.later hb))
 have KF:=Hd (fun w' (hb:Below w.heap.size w w')=>fields_any fs fs2 hf (hF.later hb) (hF2.later hb))
 have KV:=Hd (fun w' (hb:Below w.heap.size w w')=>vars_any vs vs2 hv (hV.later hb) (hV2.later hb))
 generalize cmpZ k k'=ca at KA ⊢
 generalize cmpB t t'=cb at KB ⊢
 generalize cmpZ n n'=cc at KC ⊢
 generalize lexC (flatL ps) (flatL ps2)=cp at KP ⊢
 generalize lexC (flatF fs) (flatF fs2)=cf at KF ⊢
 generalize lexC (flatV vs) (flatV vs2)=cv at KV ⊢
 rw[or2_assoc ca cb cc]
 have HBx:Hid (Gw w (w.alloc (.cells #[.int .i64 ca,.int .i64 cb,.int .i64 cc] 3)).drew):=Hd ((Gw.refl _).alloc _).drew
 have HS1:Hid ((w.drew).cell? ⟨b,o,none⟩=some (.int .i64 k)∧(w.drew).cell? ⟨b',o',none⟩=some (.int .i64 k')∧(w.drew).cell? ⟨b,o+1,none⟩=some (.string t)∧(w.drew).cell? ⟨b',o'+1,none⟩=some (.string t')∧(w.drew).cell? ⟨b,o+2,none⟩=some (.int .i64 n)∧(w.drew).cell? ⟨b',o'+2,none⟩=some (.int .i64 n')):=Hd ⟨x0,y0,x1,y1,x2,y2⟩
 have HK3:Hid (((w.alloc (.cells #[.int .i64 ca,.int .i64 cb,.int .i64 cc] 3)).drew).cell? ⟨b,o,none⟩=some (.int .i64 k)∧((w.alloc (.cells #[.int .i64 ca,.int .i64 cb,.int .i64 cc] 3)).drew).cell? ⟨b',o',none⟩=some (.int .i64 k')∧((w.alloc (.cells #[.int .i64 ca,.int .i64 cb,.int .i64 cc] 3)).drew).cell? ⟨b,o+1,none⟩=some (.string t)∧((w.alloc (.cells #[.int .i64 ca,.int .i64 cb,.int .i64 cc] 3)).drew).cell? ⟨b',o'+1,none⟩=some (.string t')∧((w.alloc (.cells #[.int .i64 ca,.int .i64 cb,.int .i64 cc] 3)).drew).cell? ⟨b,o+2,none⟩=some (.int .i64 n)∧((w.alloc (.cells #[.int .i64 ca,.int .i64 cb,.int .i64 cc] 3)).drew).cell? ⟨b',o'+2,none⟩=some (.int .i64 n')):=Hd ⟨cell_stays HBx.out.below x0,cell_stays HBx.out.below y0,cell_stays HBx.out.below x1,cell_stays HBx.out.below y1,cell_stays HBx.out.below x2,cell_stays HBx.out.below y2⟩
 have HSo:Hid (∀ w',Below w.heap.size w w'→(w'.cell? ⟨b,o+3,none⟩=some (.slice A ps.length c)∧w'.cell? ⟨b',o'+3,none⟩=some (.slice B ps2.length d))∧(w'.cell? ⟨b,o+4,none⟩=some (.slice A2 fs.length c2)∧w'.cell? ⟨b',o'+4,none⟩=some (.slice B2 fs2.length d2))∧w'.cell? ⟨b,o+5,none⟩=some (.slice A3 vs.length c3)∧w'.cell? ⟨b',o'+5,none⟩=some (.slice B3 vs2.length d3)):=Hd fun w' hb=>⟨⟨cell_stays hb x3,cell_stays hb y3⟩,⟨cell_stays hb x4,cell_stays hb y4⟩,cell_stays hb x5,cell_stays hb y5⟩
 clear hp hf hv h h' x0 x1 x2 x3 x4 x5 y0 y1 y2 y3 y4 y5 hP hF hV hP2 hF2 hV2
 go_enter Tryz.func104,Tryz.ntmps104
 go_wp2_with fail
 refine wp_region_held_drew (S:=(fun w'=>w'.cell? ⟨b,o,none⟩=some (.int .i64 k)∧w'.cell? ⟨b',o',none⟩=some (.int .i64 k')∧w'.cell? ⟨b,o+1,none⟩=some (.string t)∧w'.cell? ⟨b',o'+1,none⟩=some (.string t')∧w'.cell? ⟨b,o+2,none⟩=some (.int .i64 n)∧w'.cell? ⟨b',o'+2,none⟩=some (.int .i64 n'))) (by kernel_rfl) HS1.out (fun hHeld=>?_)
 refine Plan.start [0,1,2,3,4,5,6,7,9,10,11,12,13,14,15,16,18,19,20,21,22,23,24,25] ?_
 iterate 24 (refine Plan.tk (so rfl) hHeld ?_;try simp only[Act.put,pz1,pz2,pz3])
 refine Plan.done ?_
 refine wpAnyH_ready (rs:=[8]) (by kernel_rfl) (by simp) ?_
 refine AllReadyH.cons (sd (some 16) rfl) (fun K hK=>?_) AllReadyH.nil
 go_simp
 refine (KA.out _).mono ?_
 rintro e w2 ⟨rfl,rfl⟩
 go_wp2_with fail
 refine hK.out _ _ (HS1.out) (fun hHeld=>?_)
 clear hK K
 try simp only[Act.put,pz1,pz2,pz3]
 refine wpAnyH_ready (rs:=[17]) (by kernel_rfl) (by simp) ?_
 refine AllReadyH.cons (sd (some 25) rfl) (fun K hK=>?_) AllReadyH.nil
 go_simp
 refine (KB.out _).mono ?_
 rintro e w2 ⟨rfl,rfl⟩
 go_wp2_with fail
 refine hK.out _ _ (HS1.out) (fun hHeld=>?_)
 clear hK K
 try simp only[Act.put,pz1,pz2,pz3]
 refine wpAnyH_ready (rs:=[26]) (by kernel_rfl) (by simp) ?_
 refine AllReadyH.cons (sd (some 34) rfl) (fun K hK=>?_) AllReadyH.nil
 go_simp
 refine (KC.out _).mono ?_
 rintro e w2 ⟨rfl,rfl⟩
 go_wp2_with fail
 refine hK.out _ _ (HS1.out) (fun hHeld=>?_)
 clear hK K
 try simp only[Act.put,pz1,pz2,pz3]
 refine wpAnyH_ready (rs:=[27]) (by kernel_rfl) (by simp) ?_
 refine AllReadyH.cons (sd (some 35) rfl) (fun K hK=>?_) AllReadyH.nil
 go_simp
 refine hK.out _ _ (HK3.out) (fun hHeld=>?_)
 clear hK K
 try simp only[Act.put,pz1,pz2,pz3]
 refine wpAnyH_ready (rs:=[28]) (by kernel_rfl) (by simp) ?_
 refine AllReadyH.cons (sd (some 36) rfl) (fun K hK=>?_) AllReadyH.nil
 go_simp
 refine (or_3 _ _ _ _ _ (boxZ3 w ca cb cc).1 (boxZ3 w ca cb cc).2.1 (boxZ3 w ca cb cc).2.2).mono ?_
 rintro e w2 ⟨rfl,rfl⟩
 go_wp2_with fail
 refine hK.out _ _ (HK3.out) (fun hHeld=>?_)
 clear hK K
 try simp only[Act.put,pz1,pz2,pz3]
 refine Plan.start [29] ?_
 refine Plan.tk (so rfl) hHeld ?_
 try simp only[Act.put,pz1,pz2,pz3]
 refine Plan.done ?_
 refine wpAnyH_done (by kernel_rfl) ?_ _
 clear hHeld
 by_cases hc:or2 ca (or2 cb cc)=0
 case neg=>
  have tc:(or2 ca (or2 cb cc) != 0)=true:=by simpa using hc
  have HC:=Hd hc
  clear hc
  go_wp2_with fail
  go_ret
  exact⟨by rw[or2_ne HC.out];rfl,HBx.out⟩
 have tc:(or2 ca (or2 cb cc) != 0)=false:=by simpa using hc
 have H0:=Hd hc
 clear hc
 go_wp2_with fail
 refine wp_region_held_drew (S:=(fun w'=>w'.cell? ⟨b,o+3,none⟩=some (.slice A ps.length c)∧w'.cell? ⟨b',o'+3,none⟩=some (.slice B ps2.length d))) (by kernel_rfl) (HSo.out _ HBx.out.drew.below |> fun h=>⟨h.1.1,h.1.2⟩) (fun hHeld=>?_)
 refine Plan.start [0,1,2,3,4,5,6,7] ?_
 iterate 8 (refine Plan.tk (so rfl) hHeld ?_;try simp only[Act.put,pz1,pz2,pz3])
 refine Plan.done ?_
 refine wpAnyH_ready (rs:=[8]) (by kernel_rfl) (by simp) ?_
 refine AllReadyH.cons (sd (some 48) rfl) (fun K hK=>?_) AllReadyH.nil
 go_simp
 refine (KP.out _ HBx.out.drew.below).mono ?_
 rintro e w4 ⟨rfl,hb4⟩
 have HB4:Hid (Gw w w4):=Hd (HBx.out.drew.trans hb4)
 clear hb4
 go_wp2_with fail
 refine hK.out _ _ ((HSo.out _ HB4.out.below |> fun h=>⟨h.1.1,h.1.2⟩)) (fun hHeld=>?_)
 clear hK K
 try simp only[Act.put,pz1,pz2,pz3]
 refine Plan.start [9] ?_
 refine Plan.tk (so rfl) hHeld ?_
 try simp only[Act.put,pz1,pz2,pz3]
 refine Plan.done ?_
 refine wpAnyH_done (by kernel_rfl) ?_ _
 clear hHeld
 by_cases hc:cp=0
 case neg=>
  have tc:(cp != 0)=true:=by simpa using hc
  have HC:=Hd hc
  clear hc
  go_wp2_with fail
  go_ret
  exact⟨by rw[H0.out,or2_zero,or2_ne HC.out];rfl,HB4.out⟩
 have tc:(cp != 0)=false:=by simpa using hc
 have H1:=Hd hc
 clear hc
 go_wp2_with fail
 refine wp_region_held_drew (S:=(fun w'=>w'.cell? ⟨b,o+4,none⟩=some (.slice A2 fs.length c2)∧w'.cell? ⟨b',o'+4,none⟩=some (.slice B2 fs2.length d2))) (by kernel_rfl) (HSo.out _ HB4.out.drew.below |> fun h=>⟨h.2.1.1,h.2.1.2⟩) (fun hHeld=>?_)
 refine Plan.start [0,1,2,3,4,5,6,7] ?_
 iterate 8 (refine Plan.tk (so rfl) hHeld ?_;try simp only[Act.put,pz1,pz2,pz3])
 refine Plan.done ?_
 refine wpAnyH_ready (rs:=[8]) (by kernel_rfl) (by simp) ?_
 refine AllReadyH.cons (sd (some 60) rfl) (fun K hK=>?_) AllReadyH.nil
 go_simp
 refine (KF.out _ HB4.out.drew.below).mono ?_
 rintro e w5 ⟨rfl,hb4⟩
 have HB5:Hid (Gw w w5):=Hd (HB4.out.drew.trans hb4)
 clear hb4
 go_wp2_with fail
 refine hK.out _ _ ((HSo.out _ HB5.out.below |> fun h=>⟨h.2.1.1,h.2.1.2⟩)) (fun hHeld=>?_)
 clear hK K
 try simp only[Act.put,pz1,pz2,pz3]
 refine Plan.start [9] ?_
 refine Plan.tk (so rfl) hHeld ?_
 try simp only[Act.put,pz1,pz2,pz3]
 refine Plan.done ?_
 refine wpAnyH_done (by kernel_rfl) ?_ _
 clear hHeld
 by_cases hc:cf=0
 case neg=>
  have tc:(cf != 0)=true:=by simpa using hc
  have HC:=Hd hc
  clear hc
  go_wp2_with fail
  go_ret
  exact⟨by rw[H0.out,or2_zero,H1.out,or2_zero,or2_ne HC.out];rfl,HB5.out⟩
 have tc:(cf != 0)=false:=by simpa using hc
 have H2:=Hd hc
 clear hc
 go_wp2_with fail
 refine wp_region_held_drew (S:=(fun w'=>w'.cell? ⟨b,o+5,none⟩=some (.slice A3 vs.length c3)∧w'.cell? ⟨b',o'+5,none⟩=some (.slice B3 vs2.length d3))) (by kernel_rfl) (HSo.out _ HB5.out.drew.below |> fun h=>⟨h.2.2.1,h.2.2.2⟩) (fun hHeld=>?_)
 refine Plan.start [0,1,2,3,4,5,6,7] ?_
 iterate 8 (refine Plan.tk (so rfl) hHeld ?_;try simp only[Act.put,pz1,pz2,pz3])
 refine Plan.done ?_
 refine wpAnyH_ready (rs:=[8]) (by kernel_rfl) (by simp) ?_
 refine AllReadyH.cons (sd (some 72) rfl) (fun K hK=>?_) AllReadyH.nil
 go_simp
 refine (KV.out _ HB5.out.drew.below).mono ?_
 rintro e w6 ⟨rfl,hb4⟩
 have HB6:Hid (Gw w w6):=Hd (HB5.out.drew.trans hb4)
 clear hb4
 go_wp2_with fail
 refine hK.out _ _ ((HSo.out _ HB6.out.below |> fun h=>⟨h.2.2.1,h.2.2.2⟩)) (fun hHeld=>?_)
 clear hK K
 try simp only[Act.put,pz1,pz2,pz3]
 refine Plan.start [9] ?_
 refine Plan.tk (so rfl) hHeld ?_
 try simp only[Act.put,pz1,pz2,pz3]
 refine Plan.done ?_
 refine wpAnyH_done (by kernel_rfl) ?_ _
 clear hHeld
 go_wp2_with fail
 go_ret
 exact⟨by rw[H0.out,or2_zero,H1.out,or2_zero,H2.out,or2_zero];rfl,HB6.out⟩
theorem order_any (t:Ty):OrdT t:=Ty.ind (C:=OrdT) (fun k t n ps fs vs hp hf hv=>order_step k t n ps fs vs hp hf hv) t
theorem Order_any {K K':Nat→Prop} {w:World} {t t':Ty} {cs cs':List Value} (h:RepT K w t cs) (h':RepT K' w t' cs') :
  Calls Tryz.prog 101 #[.agg cs.toArray,.agg cs'.toArray] w fun e w'=>e=.returned (.int .i64 (ordT t t'))∧Gw w w':=by
 have hb1:Gw w (w.alloc (.cells cs.toArray 26)):=(Gw.refl w).alloc _
 have hb2:Gw w ((w.alloc (.cells cs.toArray 26)).alloc (.cells cs'.toArray 26)):=hb1.alloc _
 have a1:AtT K ((w.alloc (.cells cs.toArray 26)).alloc (.cells cs'.toArray 26)) t w.heap.size 0:=(AtT.box _ h).later ((Below.refl _ _).alloc (Nat.le_refl _) _)
 have a2:AtT K' ((w.alloc (.cells cs.toArray 26)).alloc (.cells cs'.toArray 26)) t' (w.heap.size+1) 0:=by
  have:=AtT.box (w:=w.alloc (.cells cs.toArray 26)) 26 (h'.later hb1.below)
  rw[World.size_alloc] at this
  exact this
 have KO:=Hd ((order_any t K K' t').ok _ _ _ _ _ a1 a2)
 have HB:=Hd hb2
 obtain⟨k,s,n,ps,fs,vs⟩:=t
 obtain⟨k',s',n',ps',fs',vs'⟩:=t'
 obtain⟨A,c,A',c',A'',c'',rfl,_⟩:=h.inv
 obtain⟨B,d,B',d',B'',d'',rfl,_⟩:=h'.inv
 clear a1 a2 hb1 hb2 h h'
 generalize ordT (.mk k s n ps fs vs) (.mk k' s' n' ps' fs' vs')=r at KO ⊢
 simp only[cells6T] at KO HB ⊢
 go_enter Tryz.func101,Tryz.ntmps101
 go_wp2_with fail
 refine KO.out.mono ?_
 rintro e w1 ⟨rfl,hb⟩
 have HB1:=Hd (HB.out.trans hb)
 clear hb
 go_wp2_with fail
 go_ret
 exact⟨rfl,HB1.out⟩
def cntT:Ty→Nat
 | .mk _ _ _ ps fs vs=>1+((ps.attach.map fun ⟨p,_⟩=>cntT p).sum+((fs.attach.map fun ⟨f,_⟩=>cntT f.2.2).sum+(vs.attach.map fun ⟨v,_⟩=>(v.2.attach.map fun ⟨b,_⟩=>cntT b).sum).sum))
termination_by t=>SizeOf.sizeOf t
decreasing_by
 ·exact ty_lt_p ‹_›
 ·exact ty_lt_f ‹_›
 ·exact ty_lt_v ‹_› ‹_›
def cntL (l:List Ty):Nat:=(l.map cntT).sum
def cntF (l:FsT):Nat:=(l.map fun f=>cntT f.2.2).sum
def cntV (l:VsT):Nat:=(l.map fun v=>cntL v.2).sum
theorem cntT_mk (k t n ps fs vs):cntT (.mk k t n ps fs vs)=1+(cntL ps+(cntF fs+cntV vs)):=by
 rw[cntT]
 unfold cntL cntF cntV cntL
 simp only[List.map_attach_eq_pmap,List.pmap_eq_map]
def capN (n:Nat):Nat:=min n 4097
def Told (n S:Nat):Prop:=capN n=capN S∧n≤8193
theorem Told.more {n S x:Nat} (h:Told n S) (hn:n≤4096):Told (n+capN x) (S+x):=by
 unfold Told capN at *
 omega
theorem Told.full {n S x:Nat} (h:Told n S) (hn:¬ n≤4096):Told n (S+x):=by
 unfold Told capN at *
 omega
theorem take_end {α:Type} {l:List α} {i:Nat} (h:i<l.length):l.take (i+1)=l.take i++[l[i]]:=by
 rw[List.take_add_one,List.getElem?_eq_getElem h]
 rfl
theorem cntL_take {l:List Ty} {i:Nat} (h:i<l.length):cntL (l.take (i+1))=cntL (l.take i)+cntT l[i]:=by
 unfold cntL
 rw[take_end h,List.map_append,List.sum_append]
 simp only[List.map_cons,List.map_nil,List.sum_cons,List.sum_nil,Nat.add_zero]
theorem cntF_take {l:FsT} {i:Nat} (h:i<l.length):cntF (l.take (i+1))=cntF (l.take i)+cntT l[i].2.2:=by
 unfold cntF
 rw[take_end h,List.map_append,List.sum_append]
 simp only[List.map_cons,List.map_nil,List.sum_cons,List.sum_nil,Nat.add_zero]
theorem cntV_take {l:VsT} {i:Nat} (h:i<l.length):cntV (l.take (i+1))=cntV (l.take i)+cntL l[i].2:=by
 unfold cntV
 rw[take_end h,List.map_append,List.sum_append]
 simp only[List.map_cons,List.map_nil,List.sum_cons,List.sum_nil,Nat.add_zero]
theorem cntL_split (l:List Ty) (i:Nat):∃ x,cntL l=cntL (l.take i)+x:=⟨cntL (l.drop i),by unfold cntL;rw[←List.sum_append,←List.map_append,List.take_append_drop]⟩
theorem cntF_split (l:FsT) (i:Nat):∃ x,cntF l=cntF (l.take i)+x:=⟨cntF (l.drop i),by unfold cntF;rw[←List.sum_append,←List.map_append,List.take_append_drop]⟩
theorem cntV_split (l:VsT) (i:Nat):∃ x,cntV l=cntV (l.take i)+x:=⟨cntV (l.drop i),by unfold cntV;rw[←List.sum_append,←List.map_append,List.take_append_drop]⟩
end Go.Proofs.YtlpfpehegddcfaaGreatDoor
