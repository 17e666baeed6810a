import Derived.Test.YtlpfpehegddcfaaGreatDoorMn42
namespace Go.Proofs.YtlpfpehegddcfaaGreatDoor
set_option maxRecDepth 100000
set_option maxHeartbeats 64000000
open Go.RowKit
def CIh (K K':Nat→Prop) (m:Nat) (V:Nat→Value) (h0:V 0=.agg #[.int .i64 0,.string ⟨#[]⟩,.int .i64 0,.slice none 0 0,.slice none 0 0,.slice none 0 0]) (L:List (ByteArray×Ty)) (F:ByteArray→Option Ty) (p:Ty):Prop:=∀ (wx:World) (bp op n0:Nat),AtT K wx p bp op→bp≠m+1→(∀ x,K x∨K' x→x<wx.heap.size∧x≠m+1)→FilM K' wx m n0 V h0 L→n0≤1000000000000→Calls Tryz.prog 36 #[.pointer (some ⟨m+1,0,none⟩),.pointer (some ⟨bp,op,none⟩)] wx (CFillA (fun x=>(K x∨K' x)∨wx.heap.size≤x) m wx F p n0)
theorem FilM.but {K O:Nat→Prop} {w w':World} {m n:Nat} {V:Nat→Value} {h0:V 0=.agg #[.int .i64 0,.string ⟨#[]⟩,.int .i64 0,.slice none 0 0,.slice none 0 0,.slice none 0 0]} {L:List (ByteArray×Ty)} (h:FilM K w m n V h0 L) (hb:ButG O w w') (h1:¬ O m) (h2:¬ O (m+1)) (hk:∀ x,K x→¬ O x):FilM K w' m n V h0 L:=
 ⟨hb.up h2 h.box,h.map.keep (hb.block m h.map.lt h1),fun i hi=>by obtain⟨cs,h3,h4⟩:=h.val i hi;exact⟨cs,h3,h4.but hb fun x hx=>⟨hk x hx,hx⟩⟩⟩
structure CPre (K:Nat→Prop) (m bp op:Nat) (w:World) (k:Int) (s:ByteArray) (n:Int) (ps:List Ty) (fs:FsT) (vs:VsT) (A:Option Addr) (c:Nat) (B:Option Addr) (d:Nat) (C:Option Addr) (e:Nat) (w1:World) (g:Nat):Prop where
 HX:Hid (∀ wx,ButG (fun x=>x=m+1) w1 wx→(wx.cell? ⟨bp,op,none⟩=some (.int .i64 k)∧wx.cell? ⟨bp,op+1,none⟩=some (.string s)∧wx.cell? ⟨bp,op+2,none⟩=some (.int .i64 n)∧wx.cell? ⟨bp,op+3,none⟩=some (.slice A ps.length c)∧wx.cell? ⟨bp,op+4,none⟩=some (.slice B fs.length d)∧wx.cell? ⟨bp,op+5,none⟩=some (.slice C vs.length e)))
 HY:Hid (∀ wx,ButG (fun x=>x=m+1) w1 wx→wx.heap[g]?=some (.cells #[.int .i64 0,.string ⟨#[]⟩,.int .i64 0,.slice none 0 0,.slice none 0 0,.slice none 0 0] 26 (0,0)))
 HB:Hid (Below w.heap.size w w1)
 HS:Hid (w1.heap.size=g+1)
 HG:Hid (g=w.heap.size)
 HW:Hid (w1=w.alloc (.cells #[.int .i64 0,.string ⟨#[]⟩,.int .i64 0,.slice none 0 0,.slice none 0 0,.slice none 0 0] 26))
 HP:Hid (∀ wx,ButG (fun x=>x=m+1) w1 wx→ListT K wx ps A c)
 HF:Hid (∀ wx,ButG (fun x=>x=m+1) w1 wx→ListF K wx fs B d)
 HV:Hid (∀ wx,ButG (fun x=>x=m+1) w1 wx→ListV K wx vs C e)
 HT:Hid (s.size≤1000000000000000)
 HM:Hid (m+1<g)
 HR:Hid (∀ wx,ButG (fun x=>x=m+1) w1 wx→RepT K wx (.mk k s n ps fs vs) [.int .i64 k,.string s,.int .i64 n,.slice A ps.length c,.slice B fs.length d,.slice C vs.length e])
theorem cf_pre {K:Nat→Prop} {m bp op:Nat} {w:World} {k:Int} {s:ByteArray} {n:Int} {ps:List Ty} {fs:FsT} {vs:VsT} {R:Prop} (ha:AtT K w (.mk k s n ps fs vs) bp op) (hbp:bp≠m+1) (hK:∀ x,K x→x<w.heap.size∧x≠m+1) (hm:m+1<w.heap.size)
  (main:∀ (A:Option Addr) (c:Nat) (B:Option Addr) (d:Nat) (C:Option Addr) (e:Nat) (w1:World) (g:Nat),CPre K m bp op w k s n ps fs vs A c B d C e w1 g→R):R:=by
 obtain⟨cs,h1,h2⟩:=ha
 obtain⟨A,c,B,d,C,e,rfl,ht,hL,hF,hV⟩:=h2.inv
 simp only[cells6T] at h1 h2
 obtain⟨w1,hw1⟩:∃ x,x=w.alloc (.cells #[.int .i64 0,.string ⟨#[]⟩,.int .i64 0,.slice none 0 0,.slice none 0 0,.slice none 0 0] 26):=⟨_,rfl⟩
 have hb1:Below w.heap.size w w1:=by rw[hw1];exact (Below.refl _ _).alloc (Nat.le_refl _) _
 have hz:w1.heap[w.heap.size]?=some (.cells #[.int .i64 0,.string ⟨#[]⟩,.int .i64 0,.slice none 0 0,.slice none 0 0,.slice none 0 0] 26 (0,0)):=by rw[hw1];exact heap_alloc_new w _
 have hk:∀ x,K x→¬ (x=m+1)∧K x:=fun x hx=>⟨(hK x hx).2,hx⟩
 refine main A c B d C e w1 _ ⟨Hd fun wx hx=>?_,Hd fun wx hx=>hx.up (by omega) hz,Hd hb1,Hd (by rw[hw1];simp),Hd rfl,Hd hw1,Hd fun wx hx=>(hL.later hb1).but hx hk,Hd fun wx hx=>(hF.later hb1).but hx hk,Hd fun wx hx=>(hV.later hb1).but hx hk,Hd ht,Hd hm,Hd fun wx hx=>(h2.later hb1).but hx hk⟩
 have hc:=fun j u (hj:([.int .i64 k,.string s,.int .i64 n,.slice A ps.length c,.slice B fs.length d,.slice C vs.length e]:List Value)[j]?=some u)=>hx.cell (p:=⟨bp,op+j,none⟩) hbp (cell_stays hb1 (h1 j u hj))
 exact⟨hc 0 _ rfl,hc 1 _ rfl,hc 2 _ rfl,hc 3 _ rfl,hc 4 _ rfl,hc 5 _ rfl⟩
theorem six_butM {m g:Nat} {w w1 w6 W:World} (h1:Below w.heap.size w w1) (h2:ButG (fun x=>x=m+1) w1 w6) (hg:g=w.heap.size) (h3:ButG (fun x=>x=g) w6 W):ButG (fun x=>x=m+1) w W:=
 ((ButG.of_below (O:=(fun x=>x=m+1)) h1).trans h2 fun x hx=>.inl hx).trans h3 fun x hx=>.inr (by omega)
theorem cfill_z {K K':Nat→Prop} {m bp op n0:Nat} {w:World} {k:Int} {s:ByteArray} {n:Int} {ps:List Ty} {fs:FsT} {vs:VsT} {V:Nat→Value} {h0:V 0=.agg #[.int .i64 0,.string ⟨#[]⟩,.int .i64 0,.slice none 0 0,.slice none 0 0,.slice none 0 0]} {L:List (ByteArray×Ty)} {F:ByteArray→Option Ty} (hct:cntT (.mk k s n ps fs vs)≤4096) (ha:AtT K w (.mk k s n ps fs vs) bp op) (hbp:bp≠m+1) (hK:∀ x,K x∨K' x→x<w.heap.size∧x≠m+1) (hfil:FilM K' w m n0 V h0 L) (hn0:n0≤1000000000000) (hn:4096<n0) :
  Calls Tryz.prog 36 #[.pointer (some ⟨m+1,0,none⟩),.pointer (some ⟨bp,op,none⟩)] w (CFillA (fun x=>(K x∨K' x)∨w.heap.size≤x) m w F (.mk k s n ps fs vs) n0):=by
 generalize hNT:fillN F (.mk k s n ps fs vs)=NT
 generalize hUT:fillT F (.mk k s n ps fs vs)=UT
 obtain⟨PO,hPO⟩:∃ PO:Ending→World→Prop,PO=CFillA (fun x=>(K x∨K' x)∨w.heap.size≤x) m w F (.mk k s n ps fs vs) n0:=⟨_,rfl⟩
 have HFIN:Hid (∀ e w',(∃ (rs:List Value) (u:Ty) (n1:Nat),e=.returned (.agg rs.toArray)∧RepT (fun x=>(K x∨K' x)∨w.heap.size≤x) w' u rs∧w'.heap[m+1]?=some (.cells #[.map (some m),.int .i64 n1] 69 (0,0))∧(n0+NT≤4096→n1=n0+NT∧u=UT)∧(4096<n0+NT→4096<n1)∧n1≤n0+cntT (.mk k s n ps fs vs)*4097∧cntT u≤cntT (.mk k s n ps fs vs)*4097∧ButG (fun x=>x=m+1) w w')→PO e w'):=Hd fun e w' h=>by
  rw[hPO]
  unfold CFillA
  rw[hNT,hUT]
  exact h
 rw[←hPO]
 have hmw:m+1<w.heap.size:=(Array.getElem?_eq_some_iff.1 hfil.box).1
 refine cf_pre ha hbp (fun x hx=>hK x (.inl hx)) hmw fun A c B d C e w1 g h=>?_
 obtain⟨HX,HY,HB1,HS1,HG,HW1,HP,HFS,HVS,HTS,HMG,HRP⟩:=h
 have HC1:=Hd (box_up HB1.out hmw hfil.box)
 have HKK:=Hd hK
 have HCT:=Hd hct
 have HN0:=Hd hn0
 have HNN:=Hd hn
 have c0:=Ch HC1.out 1
 simp only[List.getElem?_toArray,List.getElem?_cons_zero,List.getElem?_cons_succ] at c0
 have t1:decide ((4096:Int)<(n0:Int))=true:=decide_eq_true (by omega)
 have t1':(4096:Int)<(n0:Int):=by omega
 have rb:=HY.out w1 (ButG.refl _ _)
 obtain⟨x0,x1,x2,x3,x4,x5⟩:=HX.out w1 (ButG.refl _ _)
 clear ha hbp hK hfil hn0 hct hmw hn hNT hUT hPO
 go_enter Tryz.func36,Tryz.ntmps36
 go_upto_region 1 with fail
 rw[←HW1.out,←HG.out]
 obtain⟨q0,q1,q2,q3,q4,q5,z0,z1,z2,z3,z4,z5⟩:=qz6 rb
 have RBX:=Hd rb
 clear rb
 go_wp2_with fail
 obtain⟨r0,r1,r2,r3,r4,r5⟩:=cz6 (six_set RBX.out (.int .i64 k) (.string s) (.int .i64 n) (.slice A ps.length c) (.slice B fs.length d) (.slice C vs.length e))
 clear q0 q1 q2 q3 q4 q5 z0 z1 z2 z3 z4 z5
 refine bodyPost_ret (v:=.agg #[.int .i64 k,.string s,.int .i64 n,.slice A ps.length c,.slice B fs.length d,.slice C vs.length e]) (by simp[results,Tryz.results36,go_sem,r0,r1,r2,r3,r4,r5]) rfl ?_
 clear r0 r1 r2 r3 r4 r5
 have HSB:=six_butG w1 g (.int .i64 k) (.string s) (.int .i64 n) (.slice A ps.length c) (.slice B fs.length d) (.slice C vs.length e)
 have hn:=HNN.out
 have hcp:=cntT_pos (.mk k s n ps fs vs)
 refine HFIN.out _ _ ⟨[.int .i64 k,.string s,.int .i64 n,.slice A ps.length c,.slice B fs.length d,.slice C vs.length e],.mk k s n ps fs vs,n0,rfl,?_,HSB.up (by have:=HMG.out;show ¬ m+1=g;omega) HC1.out,fun h=>absurd h (by omega),fun _=>hn,Nat.le_add_right _ _,Nat.le_mul_of_pos_right _ (by decide),six_butM HB1.out (ButG.refl _ _) HG.out HSB⟩
 exact (HRP.out w1 (ButG.refl _ _)).but HSB fun x hx=>⟨fun e=>by have h1:=(HKK.out x (.inl hx)).1;have h2:=HG.out;omega,.inl (.inl hx)⟩
theorem cfill_i {K K':Nat→Prop} {m bp op n0:Nat} {w:World} {k:Int} {s:ByteArray} {n:Int} {ps:List Ty} {fs:FsT} {vs:VsT} {V:Nat→Value} {h0:V 0=.agg #[.int .i64 0,.string ⟨#[]⟩,.int .i64 0,.slice none 0 0,.slice none 0 0,.slice none 0 0]} {L:List (ByteArray×Ty)} {F:ByteArray→Option Ty} (hct:cntT (.mk k s n ps fs vs)≤4096) (ha:AtT K w (.mk k s n ps fs vs) bp op) (hbp:bp≠m+1) (hK:∀ x,K x∨K' x→x<w.heap.size∧x≠m+1) (hfil:FilM K' w m n0 V h0 L) (hn0:n0≤1000000000000) (hn:n0≤4096) (hfm:formT (.mk k s n ps fs vs)=true) (hno:infT (.mk k s n ps fs vs)=false) :
  Calls Tryz.prog 36 #[.pointer (some ⟨m+1,0,none⟩),.pointer (some ⟨bp,op,none⟩)] w (CFillA (fun x=>(K x∨K' x)∨w.heap.size≤x) m w F (.mk k s n ps fs vs) n0):=by
 obtain⟨hft,hfn⟩:=fill_none (F:=F) _ hno hfm
 generalize hNT:fillN F (.mk k s n ps fs vs)=NT
 generalize hUT:fillT F (.mk k s n ps fs vs)=UT
 obtain⟨PO,hPO⟩:∃ PO:Ending→World→Prop,PO=CFillA (fun x=>(K x∨K' x)∨w.heap.size≤x) m w F (.mk k s n ps fs vs) n0:=⟨_,rfl⟩
 have HFIN:Hid (∀ e w',(∃ (rs:List Value) (u:Ty) (n1:Nat),e=.returned (.agg rs.toArray)∧RepT (fun x=>(K x∨K' x)∨w.heap.size≤x) w' u rs∧w'.heap[m+1]?=some (.cells #[.map (some m),.int .i64 n1] 69 (0,0))∧(n0+NT≤4096→n1=n0+NT∧u=UT)∧(4096<n0+NT→4096<n1)∧n1≤n0+cntT (.mk k s n ps fs vs)*4097∧cntT u≤cntT (.mk k s n ps fs vs)*4097∧ButG (fun x=>x=m+1) w w')→PO e w'):=Hd fun e w' h=>by
  rw[hPO]
  unfold CFillA
  rw[hNT,hUT]
  exact h
 rw[←hPO]
 have hmw:m+1<w.heap.size:=(Array.getElem?_eq_some_iff.1 hfil.box).1
 refine cf_pre ha hbp (fun x hx=>hK x (.inl hx)) hmw fun A c B d C e w1 g h=>?_
 obtain⟨HX,HY,HB1,HS1,HG,HW1,HP,HFS,HVS,HTS,HMG,HRP⟩:=h
 have HC1:=Hd (box_up HB1.out hmw hfil.box)
 have HKK:=Hd hK
 have HCT:=Hd hct
 have HN0:=Hd hn0
 have HNN:=Hd hn
 have HNU:Hid (NT=cntT (.mk k s n ps fs vs)∧UT=.mk k s n ps fs vs):=Hd ⟨hNT.symm.trans hfn,hUT.symm.trans hft⟩
 have KI0:=inf_any (.mk k s n ps fs vs) K w1 bp op ⟨[.int .i64 k,.string s,.int .i64 n,.slice A ps.length c,.slice B fs.length d,.slice C vs.length e],fun j u hj=>by
  obtain⟨x0,x1,x2,x3,x4,x5⟩:=HX.out w1 (ButG.refl _ _)
  match j,hj with
  | 0,hj=>injection hj with hj;rw[←hj];exact x0
  | 1,hj=>injection hj with hj;rw[←hj];exact x1
  | 2,hj=>injection hj with hj;rw[←hj];exact x2
  | 3,hj=>injection hj with hj;rw[←hj];exact x3
  | 4,hj=>injection hj with hj;rw[←hj];exact x4
  | 5,hj=>injection hj with hj;rw[←hj];exact x5,HRP.out w1 (ButG.refl _ _)⟩
 rw[hno] at KI0
 have KI:=Hd KI0
 obtain⟨Y,hY⟩:∃ Y:Nat,Y=capN (cntT (.mk k s n ps fs vs)):=⟨_,rfl⟩
 have hYe:Y=cntT (.mk k s n ps fs vs):=by rw[hY];unfold capN;omega
 obtain⟨n1,hn1⟩:∃ n1,n1=n0+Y:=⟨_,rfl⟩
 have KN:Hid (Calls Tryz.prog 52 #[.agg #[.int .i64 k,.string s,.int .i64 n,.slice A ps.length c,.slice B fs.length d,.slice C vs.length e]] w1.drew fun e w'=>e=.returned (.int .i64 (Y:Int))∧Below w1.drew.heap.size w1.drew w'):=Hd ((nodes_any (HRP.out w1.drew (ButG.of_below (Below.refl _ _).drew))).mono fun e w' h=>⟨by rw[hY];exact h.1,h.2⟩)
 have w12:wrap64 ((n0:Int)+(Y:Int))=(n1:Int):=by rw[wrap_in (by omega) (by omega)];omega
 have v12:IntKind.i64.wrap ((n0:Int)+(Y:Int))=(n1:Int):=(wrap_kindJ _).trans w12
 have HN1:Hid (n1=n0+cntT (.mk k s n ps fs vs)):=Hd (by omega)
 have c0:=Ch HC1.out 1
 simp only[List.getElem?_toArray,List.getElem?_cons_zero,List.getElem?_cons_succ] at c0
 have t1:decide ((4096:Int)<(n0:Int))=false:=decide_eq_false (by omega)
 have t1':¬ (4096:Int)<(n0:Int):=by omega
 have t1'':¬ 4096<n0:=by omega
 clear ha hbp hK hfil hn0 hct hmw hn hNT hUT hPO hft hfn hfm hno KI0 hY hYe hn1
 go_enter Tryz.func36,Tryz.ntmps36
 go_upto_region 1 with fail
 rw[←HW1.out,←HG.out]
 go_wp2_with fail
 refine KI.out.mono ?_
 rintro e w2 ⟨rfl,hw2⟩
 obtain rfl:w1=w2:=hw2.symm
 clear c0
 go_upto_region 4 with fail
 refine wp_region_held_drew (S:=(fun w'=>(w'.cell? ⟨bp,op,none⟩=some (.int .i64 k)∧w'.cell? ⟨bp,op+1,none⟩=some (.string s)∧w'.cell? ⟨bp,op+2,none⟩=some (.int .i64 n)∧w'.cell? ⟨bp,op+3,none⟩=some (.slice A ps.length c)∧w'.cell? ⟨bp,op+4,none⟩=some (.slice B fs.length d)∧w'.cell? ⟨bp,op+5,none⟩=some (.slice C vs.length e)))) (by kernel_rfl) (HX.out _ (ButG.of_below (Below.refl _ _).drew)) (fun hHeld=>?_)
 refine Plan.start [0,1,2,4,5,6] ?_
 iterate 6 (refine Plan.tk (so rfl) hHeld ?_;try simp only[Act.put,pz1,pz2,pz3])
 refine Plan.done ?_
 refine wpAnyH_ready (rs:=[3,7]) (by kernel_rfl) (by simp) ?_
 refine AllReadyH.cons (sd (some 28) rfl) (fun Kx hK=>?_) (AllReadyH.cons (sd (some 32) rfl) (fun Kx hK=>?_) AllReadyH.nil)
 have v3:World.cell? (World.drew w1) ⟨m+1,1,none⟩=some (.int .i64 n0):=by rw[Ch (show (World.drew w1).heap[m+1]?=_ from HC1.out)];rfl
 go_simp
 clear v3
 refine hK.out _ _ (HX.out _ (ButG.of_below (Below.refl _ _).drew)) (fun hHeld=>?_)
 clear hK Kx
 try simp only[Act.put,pz1,pz2,pz3]
 refine wpAnyH_ready (rs:=[7]) (by kernel_rfl) (by simp) ?_
 refine AllReadyH.cons (sd (some 32) rfl) (fun Kx hK=>?_) AllReadyH.nil
 go_simp
 refine KN.out.mono ?_
 rintro e v5 ⟨rfl,hb5⟩
 have HB0:Hid (Below w1.heap.size w1 v5):=Hd ((Below.refl w1.heap.size w1).drew.trans hb5)
 clear hb5 KN
 go_wp2_with fail
 refine hK.out _ _ (HX.out _ (ButG.of_below HB0.out)) (fun hHeld=>?_)
 clear hK Kx
 try simp only[Act.put,pz1,pz2,pz3]
 have HC0:=Hd (box_up HB0.out (Array.getElem?_eq_some_iff.1 HC1.out).1 HC1.out)
 have v3:=Ch HC0.out 1
 have v4:=Lib.frozen_of_heap HC0.out 1
 simp only[List.getElem?_toArray,List.getElem?_cons_zero,List.getElem?_cons_succ] at v3
 rotate_left
 go_simp
 refine KN.out.mono ?_
 rintro e v5 ⟨rfl,hb5⟩
 have HB0:Hid (Below w1.heap.size w1 v5):=Hd ((Below.refl w1.heap.size w1).drew.trans hb5)
 clear hb5 KN
 go_wp2_with fail
 refine hK.out _ _ (HX.out _ (ButG.of_below HB0.out)) (fun hHeld=>?_)
 clear hK Kx
 try simp only[Act.put,pz1,pz2,pz3]
 have HC0:=Hd (box_up HB0.out (Array.getElem?_eq_some_iff.1 HC1.out).1 HC1.out)
 have v3:=Ch HC0.out 1
 have v4:=Lib.frozen_of_heap HC0.out 1
 simp only[List.getElem?_toArray,List.getElem?_cons_zero,List.getElem?_cons_succ] at v3
 refine wpAnyH_ready (rs:=[3]) (by kernel_rfl) (by simp) ?_
 refine AllReadyH.cons (sd (some 28) rfl) (fun Kx hK=>?_) AllReadyH.nil
 go_simp
 refine hK.out _ _ (HX.out _ (ButG.of_below HB0.out)) (fun hHeld=>?_)
 clear hK Kx
 try simp only[Act.put,pz1,pz2,pz3]
 all_goals (
  refine Plan.start [8,9,10] ?_
  iterate 3 (refine Plan.tk (so rfl) hHeld ?_;try simp only[Act.put,pz1,pz2,pz3])
  refine Plan.done ?_
  refine wpAnyH_ready (rs:=[11]) (by kernel_rfl) (by simp) ?_
  refine AllReadyH.cons (sd none rfl) (fun Kx hK=>?_) AllReadyH.nil
  go_simp
  clear v3 v4
  obtain⟨w6,hw6⟩:∃ x,x=v5.setCell ⟨m+1,1,none⟩ (.int .i64 (n1:Int)):=⟨_,rfl⟩
  have hb6:ButG (fun x=>x=m+1) w1 w6:=by rw[hw6];exact (ButG.of_below HB0.out).put1 1 _
  have hc6:w6.heap[m+1]?=some (.cells #[.map (some m),.int .i64 n1] 69 (0,0)):=by rw[hw6];exact six_one HC0.out 1 _
  have HB6:=Hd hb6
  have HC6:=Hd hc6
  rw[←hw6]
  clear hw6 hb6 hc6
  refine hK.out _ _ (HX.out _ HB6.out) (fun hHeld=>?_)
  clear hK Kx
  try simp only[Act.put,pz1,pz2,pz3]
  refine wpAnyH_done (by kernel_rfl) ?_ _
  clear hHeld
  obtain⟨x0,x1,x2,x3,x4,x5⟩:=HX.out _ HB6.out
  have rb:=HY.out w6 HB6.out
  go_upto_region 5 with fail
  obtain⟨q0,q1,q2,q3,q4,q5,z0,z1,z2,z3,z4,z5⟩:=qz6 rb
  have RBX:=Hd rb
  clear rb
  go_wp2_with fail
  obtain⟨r0,r1,r2,r3,r4,r5⟩:=cz6 (six_set RBX.out (.int .i64 k) (.string s) (.int .i64 n) (.slice A ps.length c) (.slice B fs.length d) (.slice C vs.length e))
  clear q0 q1 q2 q3 q4 q5 z0 z1 z2 z3 z4 z5
  refine bodyPost_ret (v:=.agg #[.int .i64 k,.string s,.int .i64 n,.slice A ps.length c,.slice B fs.length d,.slice C vs.length e]) (by simp[results,Tryz.results36,go_sem,r0,r1,r2,r3,r4,r5]) rfl ?_
  clear r0 r1 r2 r3 r4 r5
  have HSB:=six_butG w6 g (.int .i64 k) (.string s) (.int .i64 n) (.slice A ps.length c) (.slice B fs.length d) (.slice C vs.length e)
  have h1:=HN1.out
  have h2:=HNU.out
  refine HFIN.out _ _ ⟨[.int .i64 k,.string s,.int .i64 n,.slice A ps.length c,.slice B fs.length d,.slice C vs.length e],.mk k s n ps fs vs,n1,rfl,?_,HSB.up (by have:=HMG.out;show ¬ m+1=g;omega) HC6.out,fun h=>⟨by rw[h1,h2.1],h2.2.symm⟩,fun h=>by rw[h1,←h2.1];exact h,by rw[h1];exact Nat.add_le_add_left (Nat.le_mul_of_pos_right _ (by decide)) _,Nat.le_mul_of_pos_right _ (by decide),six_butM HB1.out HB6.out HG.out HSB⟩
  exact (HRP.out w6 HB6.out).but HSB fun x hx=>⟨fun e=>by have h1:=(HKK.out x (.inl hx)).1;have h2:=HG.out;omega,.inl (.inl hx)⟩)
theorem cfill_f22 {K K':Nat→Prop} {m bp op n0:Nat} {w:World} {k:Int} {s:ByteArray} {n:Int} {ps:List Ty} {fs:FsT} {vs:VsT} {V:Nat→Value} {h0:V 0=.agg #[.int .i64 0,.string ⟨#[]⟩,.int .i64 0,.slice none 0 0,.slice none 0 0,.slice none 0 0]} {L:List (ByteArray×Ty)} {F:ByteArray→Option Ty} {j:Nat} (hct:cntT (.mk k s n ps fs vs)≤4096) (ha:AtT K w (.mk k s n ps fs vs) bp op) (hbp:bp≠m+1) (hK:∀ x,K x∨K' x→x<w.heap.size∧x≠m+1) (hfil:FilM K' w m n0 V h0 L) (hn0:n0≤1000000000000) (hn:n0≤4096) (h22:k=22) (hj:firstN L s=some j) (hjl:j - 1<L.length) (hj1:1≤j) (hF:F s=some (L[j - 1]'hjl).2) (hcu:cntT (L[j - 1]'hjl).2≤4096) (hinf:infT (.mk k s n ps fs vs)=true) :
  Calls Tryz.prog 36 #[.pointer (some ⟨m+1,0,none⟩),.pointer (some ⟨bp,op,none⟩)] w (CFillA (fun x=>(K x∨K' x)∨w.heap.size≤x) m w F (.mk k s n ps fs vs) n0):=by
 have t1'':¬ 4096<n0:=Nat.not_lt.2 hn
 have t1':¬ (4096:Int)<(n0:Int):=fun h=>t1'' (Int.ofNat_lt.1 h)
 have t1:decide ((4096:Int)<(n0:Int))=false:=decide_eq_false t1'
 have f22:(k == 22)=true:=by simp[h22]
 have hn2:fillN F (.mk k s n ps fs vs)=cntT (L[j - 1]'hjl).2∧fillT F (.mk k s n ps fs vs)=(L[j - 1]'hjl).2:=by
  have hc:k=22∧(F s).isSome=true:=⟨h22,by rw[hF];rfl⟩
  rw[fillN,fillT,if_pos hc,if_pos hc,hF]
  exact⟨rfl,rfl⟩
 obtain⟨hn2,ht2⟩:=hn2
 generalize hNT:fillN F (.mk k s n ps fs vs)=NT
 generalize hUT:fillT F (.mk k s n ps fs vs)=UT
 obtain⟨PO,hPO⟩:∃ PO:Ending→World→Prop,PO=CFillA (fun x=>(K x∨K' x)∨w.heap.size≤x) m w F (.mk k s n ps fs vs) n0:=⟨_,rfl⟩
 have HFIN:Hid (∀ e w',(∃ (rs:List Value) (u:Ty) (n1:Nat),e=.returned (.agg rs.toArray)∧RepT (fun x=>(K x∨K' x)∨w.heap.size≤x) w' u rs∧w'.heap[m+1]?=some (.cells #[.map (some m),.int .i64 n1] 69 (0,0))∧(n0+NT≤4096→n1=n0+NT∧u=UT)∧(4096<n0+NT→4096<n1)∧n1≤n0+cntT (.mk k s n ps fs vs)*4097∧cntT u≤cntT (.mk k s n ps fs vs)*4097∧ButG (fun x=>x=m+1) w w')→PO e w'):=Hd fun e w' h=>by
  rw[hPO]
  unfold CFillA
  rw[hNT,hUT]
  exact h
 rw[←hPO]
 have hmw:m+1<w.heap.size:=(Array.getElem?_eq_some_iff.1 hfil.box).1
 refine cf_pre ha hbp (fun x hx=>hK x (.inl hx)) hmw fun A c B d C e w1 g h=>?_
 obtain⟨HX,HY,HB1,HS1,HG,HW1,HP,HFS,HVS,HTS,HMG,HRP⟩:=h
 have HC1:=Hd (box_up HB1.out hmw hfil.box)
 have HKK:=Hd hK
 have HCT:=Hd hct
 have HN0:=Hd hn0
 have HNN:=Hd hn
 obtain⟨us,hus,hru⟩:=hfil.val (j - 1) hjl
 rw[show j - 1+1=j from by omega] at hus
 have HMP0:=Hd hfil.map
 generalize (L[j - 1]'hjl).2=u at hn2 ht2 hF hcu hru
 have HNU:Hid (NT=cntT u∧UT=u):=Hd ⟨hNT.symm.trans hn2,hUT.symm.trans ht2⟩
 have HCU:=Hd hcu
 have HRU0:=hru
 have KN0:=fun wx (hx:Below w1.heap.size w1 wx)=>nodes_any ((hru.later HB1.out).later hx)
 obtain⟨Y,hY⟩:∃ Y:Nat,Y=capN (cntT u):=⟨_,rfl⟩
 have hYe:Y=cntT u:=by rw[hY];unfold capN;omega
 have HYY:=Hd hY
 obtain⟨n1,hn1⟩:∃ n1,n1=n0+Y:=⟨_,rfl⟩
 have w12:wrap64 ((n0:Int)+(Y:Int))=(n1:Int):=by rw[wrap_in (by omega) (by omega)];omega
 have v12:IntKind.i64.wrap ((n0:Int)+(Y:Int))=(n1:Int):=(wrap_kindJ _).trans w12
 have HN1:Hid (n1=n0+cntT u):=Hd (by omega)
 clear hct hY hYe hn1 hn2 ht2 hcu hNT hUT
 obtain⟨k4,s4,n4,ps4,fs4,vs4⟩:=u
 obtain⟨A4,c4,B4,d4,C4,e4,rfl,-⟩:=hru.inv
 simp only[cells6T] at HRU0 KN0 hus
 have HRU:=Hd HRU0
 have HKN:Hid (∀ wx,Below w1.heap.size w1 wx→Calls Tryz.prog 52 #[.agg #[.int .i64 k4,.string s4,.int .i64 n4,.slice A4 ps4.length c4,.slice B4 fs4.length d4,.slice C4 vs4.length e4]] wx fun e w'=>e=.returned (.int .i64 (Y:Int))∧Below wx.heap.size wx w'):=Hd fun wx hx=>(KN0 wx hx).mono fun e w' h=>⟨by rw[HYY.out];exact h.1,h.2⟩
 have HLK:Hid (∀ wx,Below w1.heap.size w1 wx→(Instr.lookup 67 (.map (some m)) (.string s) true).run Tryz.prog wx=.ok (.tuple #[.agg #[.int .i64 k4,.string s4,.int .i64 n4,.slice A4 ps4.length c4,.slice B4 fs4.length d4,.slice C4 vs4.length e4],.bool true]) wx):=Hd fun wx hx=>by
  have h:=((HMP0.out.later HB1.out).later hx).look2 s (Nat.le_trans HTS.out (by decide:1000000000000000≤maxLen))
  have e1:(tysMK V h0).val ((firstN L s).getD (tysMK V h0).zero)=.agg #[.int .i64 k4,.string s4,.int .i64 n4,.slice A4 ps4.length c4,.slice B4 fs4.length d4,.slice C4 vs4.length e4]:=by rw[hj];exact hus
  rw[e1,hj] at h
  exact h
 have HC6:Hid (∀ wx,Below w1.heap.size w1 wx→wx.cell? ⟨m+1,0,none⟩=some (.map (some m))∧(wx.cell? ⟨bp,op,none⟩=some (.int .i64 k)∧wx.cell? ⟨bp,op+1,none⟩=some (.string s)∧wx.cell? ⟨bp,op+2,none⟩=some (.int .i64 n)∧wx.cell? ⟨bp,op+3,none⟩=some (.slice A ps.length c)∧wx.cell? ⟨bp,op+4,none⟩=some (.slice B fs.length d)∧wx.cell? ⟨bp,op+5,none⟩=some (.slice C vs.length e))):=Hd fun wx hx=>⟨by rw[Ch (box_up hx (Array.getElem?_eq_some_iff.1 HC1.out).1 HC1.out)];rfl,HX.out wx (ButG.of_below hx)⟩
 have KI0:=inf_any (.mk k s n ps fs vs) K w1 bp op ⟨[.int .i64 k,.string s,.int .i64 n,.slice A ps.length c,.slice B fs.length d,.slice C vs.length e],fun j u hj=>by
  obtain⟨x0,x1,x2,x3,x4,x5⟩:=HX.out w1 (ButG.refl _ _)
  match j,hj with
  | 0,hj=>injection hj with hj;rw[←hj];exact x0
  | 1,hj=>injection hj with hj;rw[←hj];exact x1
  | 2,hj=>injection hj with hj;rw[←hj];exact x2
  | 3,hj=>injection hj with hj;rw[←hj];exact x3
  | 4,hj=>injection hj with hj;rw[←hj];exact x4
  | 5,hj=>injection hj with hj;rw[←hj];exact x5,HRP.out w1 (ButG.refl _ _)⟩
 rw[hinf] at KI0
 have KI:=Hd KI0
 have c0:=Ch HC1.out 1
 simp only[List.getElem?_toArray,List.getElem?_cons_zero,List.getElem?_cons_succ] at c0
 clear ha hbp hK hfil hn0 hmw hn hPO hF hru hus HRU0 KN0 hinf KI0 h22 hj hjl hj1
 go_enter Tryz.func36,Tryz.ntmps36
 go_upto_region 1 with fail
 rw[←HW1.out,←HG.out]
 go_wp2_with fail
 refine KI.out.mono ?_
 rintro e w2 ⟨rfl,hw2⟩
 obtain rfl:w1=w2:=hw2.symm
 clear c0 hw2
 go_upto_region 6 with fail
 refine wp_region_held_drew (S:=(fun w'=>w'.cell? ⟨m+1,0,none⟩=some (.map (some m))∧(w'.cell? ⟨bp,op,none⟩=some (.int .i64 k)∧w'.cell? ⟨bp,op+1,none⟩=some (.string s)∧w'.cell? ⟨bp,op+2,none⟩=some (.int .i64 n)∧w'.cell? ⟨bp,op+3,none⟩=some (.slice A ps.length c)∧w'.cell? ⟨bp,op+4,none⟩=some (.slice B fs.length d)∧w'.cell? ⟨bp,op+5,none⟩=some (.slice C vs.length e)))) (by kernel_rfl) (HC6.out _ (Below.refl _ _).drew) (fun hHeld=>?_)
 refine Plan.start [0,1,2,3,4,5,6,7] ?_
 iterate 8 (refine Plan.tk (so rfl) hHeld ?_;try simp only[Act.put,pz1,pz2,pz3])
 refine Plan.done ?_
 refine wpAnyH_ready (rs:=[8,12]) (by kernel_rfl) (by simp) ?_
 refine AllReadyH.cons (sd (some 48) rfl) (fun Kx hK=>?_) (AllReadyH.cons (sd (some 5) rfl) (fun Kx hK=>?_) AllReadyH.nil)
 have lk:=HLK.out _ (Below.refl w1.heap.size w1).drew
 go_simp
 clear lk
 refine hK.out _ _ (HC6.out _ (Below.refl _ _).drew) (fun hHeld=>?_)
 clear hK Kx
 try simp only[Act.put,pz1,pz2,pz3]
 refine Plan.start [9,10,11] ?_
 iterate 3 (refine Plan.tk (so rfl) hHeld ?_;try simp only[Act.put,pz1,pz2,pz3])
 refine Plan.done ?_
 refine wpAnyH_ready (rs:=[12]) (by kernel_rfl) (by simp) ?_
 refine AllReadyH.cons (sd (some 5) rfl) (fun Kx hK=>?_) AllReadyH.nil
 go_simp
 generalize hW:World.drew (World.alloc w1 (.cells #[.int .i64 0,.string ⟨#[]⟩,.int .i64 0,.slice none 0 0,.slice none 0 0,.slice none 0 0] 26))=w4
 have hb:Below w1.heap.size w1 w4:=by rw[←hW];exact ((Below.refl _ _).alloc (Nat.le_refl _) _).drew
 have rs:w4.heap[g+1]?=some (.cells #[.int .i64 0,.string ⟨#[]⟩,.int .i64 0,.slice none 0 0,.slice none 0 0,.slice none 0 0] 26 (0,0)):=by rw[←hW];have h:=heap_alloc_new w1 (.cells #[.int .i64 0,.string ⟨#[]⟩,.int .i64 0,.slice none 0 0,.slice none 0 0,.slice none 0 0] 26);rw[HS1.out] at h;exact h
 rw[HS1.out]
 have HB34:=Hd hb
 have HX4:=Hd rs
 clear hW hb rs
 refine hK.out _ _ (HC6.out _ HB34.out) (fun hHeld=>?_)
 clear hK Kx
 try simp only[Act.put,pz1,pz2,pz3]
 rotate_left
 go_simp
 generalize hW:World.drew (World.alloc w1 (.cells #[.int .i64 0,.string ⟨#[]⟩,.int .i64 0,.slice none 0 0,.slice none 0 0,.slice none 0 0] 26))=w4
 have hb:Below w1.heap.size w1 w4:=by rw[←hW];exact ((Below.refl _ _).alloc (Nat.le_refl _) _).drew
 have rs:w4.heap[g+1]?=some (.cells #[.int .i64 0,.string ⟨#[]⟩,.int .i64 0,.slice none 0 0,.slice none 0 0,.slice none 0 0] 26 (0,0)):=by rw[←hW];have h:=heap_alloc_new w1 (.cells #[.int .i64 0,.string ⟨#[]⟩,.int .i64 0,.slice none 0 0,.slice none 0 0,.slice none 0 0] 26);rw[HS1.out] at h;exact h
 rw[HS1.out]
 have HB34:=Hd hb
 have HX4:=Hd rs
 clear hW hb rs
 refine hK.out _ _ (HC6.out _ HB34.out) (fun hHeld=>?_)
 clear hK Kx
 try simp only[Act.put,pz1,pz2,pz3]
 have lk:=HLK.out _ HB34.out
 refine wpAnyH_ready (rs:=[8]) (by kernel_rfl) (by simp) ?_
 refine AllReadyH.cons (sd (some 48) rfl) (fun Kx hK=>?_) AllReadyH.nil
 go_simp
 clear lk
 refine hK.out _ _ (HC6.out _ HB34.out) (fun hHeld=>?_)
 clear hK Kx
 try simp only[Act.put,pz1,pz2,pz3]
 refine Plan.start [9,10,11] ?_
 iterate 3 (refine Plan.tk (so rfl) hHeld ?_;try simp only[Act.put,pz1,pz2,pz3])
 refine Plan.done ?_
 all_goals (
  refine wpAnyH_ready (rs:=[13]) (by kernel_rfl) (by simp) ?_
  refine AllReadyH.cons (sd none rfl) (fun Kx hK=>?_) AllReadyH.nil
  go_simp
  obtain⟨q0,q1,q2,q3,q4,q5,z0,z1,z2,z3,z4,z5⟩:=qz6 HX4.out
  go_simp
  clear q0 q1 q2 q3 q4 q5 z0 z1 z2 z3 z4 z5
  have hgs:w1.heap.size≤g+1:=Nat.le_of_eq HS1.out
  have hb:Below w1.heap.size w1 (((((((w4.setCell ⟨g+1,0,none⟩ (.int .i64 k4)).setCell ⟨g+1,1,none⟩ (.string s4)).setCell ⟨g+1,2,none⟩ (.int .i64 n4)).setCell ⟨g+1,3,none⟩ (.slice A4 ps4.length c4)).setCell ⟨g+1,4,none⟩ (.slice B4 fs4.length d4)).setCell ⟨g+1,5,none⟩ (.slice C4 vs4.length e4))):=(((((HB34.out.setCell hgs _).setCell hgs _).setCell hgs _).setCell hgs _).setCell hgs _).setCell hgs _
  have hx:=six_set HX4.out (.int .i64 k4) (.string s4) (.int .i64 n4) (.slice A4 ps4.length c4) (.slice B4 fs4.length d4) (.slice C4 vs4.length e4)
  generalize hW:(((((((w4.setCell ⟨g+1,0,none⟩ (.int .i64 k4)).setCell ⟨g+1,1,none⟩ (.string s4)).setCell ⟨g+1,2,none⟩ (.int .i64 n4)).setCell ⟨g+1,3,none⟩ (.slice A4 ps4.length c4)).setCell ⟨g+1,4,none⟩ (.slice B4 fs4.length d4)).setCell ⟨g+1,5,none⟩ (.slice C4 vs4.length e4)))=w5 at hb hx ⊢
  have HB35:=Hd hb
  have HX5:=Hd hx
  clear hW hb hx hgs
  refine hK.out _ _ (HC6.out _ HB35.out) (fun hHeld=>?_)
  clear hK Kx
  try simp only[Act.put,pz1,pz2,pz3]
  refine Plan.start [14] ?_
  refine Plan.tk (so rfl) hHeld ?_
  try simp only[Act.put,pz1,pz2,pz3]
  refine Plan.done ?_
  refine wpAnyH_done (by kernel_rfl) ?_ _
  clear hHeld
  have HC5:=Hd (box_up HB35.out (Array.getElem?_eq_some_iff.1 HC1.out).1 HC1.out)
  have HC8:Hid (∀ wx,Below w5.heap.size w5 wx→(wx.cell? ⟨g+1,0,none⟩=some (.int .i64 k4)∧wx.cell? ⟨g+1,1,none⟩=some (.string s4)∧wx.cell? ⟨g+1,2,none⟩=some (.int .i64 n4)∧wx.cell? ⟨g+1,3,none⟩=some (.slice A4 ps4.length c4)∧wx.cell? ⟨g+1,4,none⟩=some (.slice B4 fs4.length d4)∧wx.cell? ⟨g+1,5,none⟩=some (.slice C4 vs4.length e4))):=Hd fun wx hx=>by
   obtain⟨a0,a1,a2,a3,a4,a5⟩:=cz6 (box_up hx (Array.getElem?_eq_some_iff.1 HX5.out).1 HX5.out)
   exact⟨a0,a1,a2,a3,a4,a5⟩
  have KN:Hid (Calls Tryz.prog 52 #[.agg #[.int .i64 k4,.string s4,.int .i64 n4,.slice A4 ps4.length c4,.slice B4 fs4.length d4,.slice C4 vs4.length e4]] w5.drew fun e w'=>e=.returned (.int .i64 (Y:Int))∧Below w5.drew.heap.size w5.drew w'):=Hd (HKN.out w5.drew HB35.out.drew)
  obtain⟨x0,x1,x2,x3,x4,x5⟩:=HX.out _ (ButG.of_below HB35.out)
  go_upto_region 8 with fail
  clear x0 x1 x2 x3 x4 x5
  refine wp_region_held_drew (S:=(fun w'=>(w'.cell? ⟨g+1,0,none⟩=some (.int .i64 k4)∧w'.cell? ⟨g+1,1,none⟩=some (.string s4)∧w'.cell? ⟨g+1,2,none⟩=some (.int .i64 n4)∧w'.cell? ⟨g+1,3,none⟩=some (.slice A4 ps4.length c4)∧w'.cell? ⟨g+1,4,none⟩=some (.slice B4 fs4.length d4)∧w'.cell? ⟨g+1,5,none⟩=some (.slice C4 vs4.length e4)))) (by kernel_rfl) (HC8.out _ (Below.refl _ _).drew) (fun hHeld=>?_)
  refine Plan.start [0,1,2,4] ?_
  iterate 4 (refine Plan.tk (so rfl) hHeld ?_;try simp only[Act.put,pz1,pz2,pz3])
  refine Plan.done ?_
  refine wpAnyH_ready (rs:=[3,5]) (by kernel_rfl) (by simp) ?_
  refine AllReadyH.cons (sd (some 62) rfl) (fun Kx hK=>?_) (AllReadyH.cons (sd (some 64) rfl) (fun Kx hK=>?_) AllReadyH.nil)
  have v3:World.cell? (World.drew w5) ⟨m+1,1,none⟩=some (.int .i64 n0):=by rw[Ch (show (World.drew w5).heap[m+1]?=_ from HC5.out)];rfl
  go_simp
  clear v3
  refine hK.out _ _ (HC8.out _ (Below.refl _ _).drew) (fun hHeld=>?_)
  clear hK Kx
  try simp only[Act.put,pz1,pz2,pz3]
  refine wpAnyH_ready (rs:=[5]) (by kernel_rfl) (by simp) ?_
  refine AllReadyH.cons (sd (some 64) rfl) (fun Kx hK=>?_) AllReadyH.nil
  go_simp
  refine KN.out.mono ?_
  rintro e v5 ⟨rfl,hb5⟩
  have HB0:Hid (Below w5.heap.size w5 v5):=Hd ((Below.refl w5.heap.size w5).drew.trans hb5)
  clear hb5 KN
  go_wp2_with fail
  refine hK.out _ _ (HC8.out _ HB0.out) (fun hHeld=>?_)
  clear hK Kx
  try simp only[Act.put,pz1,pz2,pz3]
  have HC0:=Hd (box_up HB0.out (Array.getElem?_eq_some_iff.1 HC5.out).1 HC5.out)
  have v3:=Ch HC0.out 1
  have v4:=Lib.frozen_of_heap HC0.out 1
  simp only[List.getElem?_toArray,List.getElem?_cons_zero,List.getElem?_cons_succ] at v3
  rotate_left
  go_simp
  refine KN.out.mono ?_
  rintro e v5 ⟨rfl,hb5⟩
  have HB0:Hid (Below w5.heap.size w5 v5):=Hd ((Below.refl w5.heap.size w5).drew.trans hb5)
  clear hb5 KN
  go_wp2_with fail
  refine hK.out _ _ (HC8.out _ HB0.out) (fun hHeld=>?_)
  clear hK Kx
  try simp only[Act.put,pz1,pz2,pz3]
  have HC0:=Hd (box_up HB0.out (Array.getElem?_eq_some_iff.1 HC5.out).1 HC5.out)
  have v3:=Ch HC0.out 1
  have v4:=Lib.frozen_of_heap HC0.out 1
  simp only[List.getElem?_toArray,List.getElem?_cons_zero,List.getElem?_cons_succ] at v3
  refine wpAnyH_ready (rs:=[3]) (by kernel_rfl) (by simp) ?_
  refine AllReadyH.cons (sd (some 62) rfl) (fun Kx hK=>?_) AllReadyH.nil
  go_simp
  refine hK.out _ _ (HC8.out _ HB0.out) (fun hHeld=>?_)
  clear hK Kx
  try simp only[Act.put,pz1,pz2,pz3]
  all_goals (
   refine Plan.start [6,7,8] ?_
   iterate 3 (refine Plan.tk (so rfl) hHeld ?_;try simp only[Act.put,pz1,pz2,pz3])
   refine Plan.done ?_
   refine wpAnyH_ready (rs:=[9]) (by kernel_rfl) (by simp) ?_
   refine AllReadyH.cons (sd none rfl) (fun Kx hK=>?_) AllReadyH.nil
   go_simp
   clear v3 v4
   obtain⟨w6,hw6⟩:∃ x,x=v5.setCell ⟨m+1,1,none⟩ (.int .i64 (n1:Int)):=⟨_,rfl⟩
   have hb6:ButG (fun x=>x=m+1) w5 w6:=by rw[hw6];exact (ButG.of_below HB0.out).put1 1 _
   have hc6:w6.heap[m+1]?=some (.cells #[.map (some m),.int .i64 n1] 69 (0,0)):=by rw[hw6];exact six_one HC0.out 1 _
   have hg8:=hb6.up (by have:=HMG.out;show ¬ g+1=m+1;omega) HX5.out
   have HB6:=Hd hb6
   have HC66:=Hd hc6
   have HG8:=Hd hg8
   rw[←hw6]
   clear hw6 hb6 hc6 hg8
   obtain⟨a0,a1,a2,a3,a4,a5⟩:=cz6 HG8.out
   refine hK.out _ _ (⟨a0,a1,a2,a3,a4,a5⟩) (fun hHeld=>?_)
   clear hK Kx
   try simp only[Act.put,pz1,pz2,pz3]
   refine wpAnyH_done (by kernel_rfl) ?_ _
   clear hHeld
   have HB16:Hid (ButG (fun x=>x=m+1) w1 w6):=Hd (ButG.from HB35.out HB6.out)
   have rb:=HY.out w6 HB16.out
   go_upto_region 9 with fail
   obtain⟨q0,q1,q2,q3,q4,q5,z0,z1,z2,z3,z4,z5⟩:=qz6 rb
   have RBX:=Hd rb
   clear rb
   go_wp2_with fail
   obtain⟨r0,r1,r2,r3,r4,r5⟩:=cz6 (six_set RBX.out (.int .i64 k4) (.string s4) (.int .i64 n4) (.slice A4 ps4.length c4) (.slice B4 fs4.length d4) (.slice C4 vs4.length e4))
   clear q0 q1 q2 q3 q4 q5 z0 z1 z2 z3 z4 z5
   refine bodyPost_ret (v:=.agg #[.int .i64 k4,.string s4,.int .i64 n4,.slice A4 ps4.length c4,.slice B4 fs4.length d4,.slice C4 vs4.length e4]) (by simp[results,Tryz.results36,go_sem,r0,r1,r2,r3,r4,r5]) rfl ?_
   clear r0 r1 r2 r3 r4 r5
   have HSB:=six_butG w6 g (.int .i64 k4) (.string s4) (.int .i64 n4) (.slice A4 ps4.length c4) (.slice B4 fs4.length d4) (.slice C4 vs4.length e4)
   have hmg:¬ m+1=g:=by have:=HMG.out;omega
   have hgx:∀ x,K' x→x≠g:=fun x hx e=>by have h1:=(HKK.out x (.inr hx)).1;have h2:=HG.out;omega
   have h1:=HN1.out
   have h2:=HNU.out
   have h3:=HCU.out
   have hcp:=cntT_pos (.mk k s n ps fs vs)
   refine HFIN.out _ _ ⟨[.int .i64 k4,.string s4,.int .i64 n4,.slice A4 ps4.length c4,.slice B4 fs4.length d4,.slice C4 vs4.length e4],.mk k4 s4 n4 ps4 fs4 vs4,n1,rfl,?_,HSB.up hmg HC66.out,fun h=>⟨by rw[h1,h2.1],h2.2.symm⟩,fun h=>by rw[h1,←h2.1];exact h,by rw[h1];exact Nat.add_le_add_left (Nat.le_trans h3 (Nat.le_trans (by decide) (Nat.le_mul_of_pos_left _ hcp))) _,Nat.le_trans h3 (Nat.le_trans (by decide) (Nat.le_mul_of_pos_left _ hcp)),six_butM HB1.out HB16.out HG.out HSB⟩
   exact ((HRU.out.later HB1.out).but HB16.out fun x hx=>⟨(HKK.out x (.inr hx)).2,hx⟩).but HSB fun x hx=>⟨hgx x hx,.inl (.inr hx)⟩))
end Go.Proofs.YtlpfpehegddcfaaGreatDoor
